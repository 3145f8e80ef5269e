/- The contract of the reader's sig. Signatures in memory: a slice of them, each with a row of parameters; append on them. Nothing of the program is walked here. The contract of sign.Sigs: the signatures of a tree over a table, in new memory, or the first fault. -/
import Derived.Test.YtpjnpffcnmgdcaaGreatDoorZ30
import Derived.Test.YtpjnpffcnmgdcaaGreatDoorZ27
namespace Go.Proofs.YtpjnpffcnmgdcaaGreatDoor
set_option maxRecDepth 100000
set_option maxHeartbeats 4000000
section
open Go.RowKit Go.Maps
def sg0:Sg:=⟨⟨#[]⟩,[],zyb⟩
def zka (s:Sg) (pv:Value):List Value:=[.string s.name,pv,.string s.ret.name,.int .i64 s.ret.mode,.int .i64 s.ret.ty]
def SgV (s:Sg) (pv:Value):Value:=.agg #[.string s.name,pv,.string s.ret.name,.int .i64 s.ret.mode,.int .i64 s.ret.ty]
theorem zWe (s:Sg) {pv:Value} (h:pv.oneCell'=true):∀ u∈zka s pv,u.oneCell'=true:=by
 intro u hu
 simp only [zka,List.mem_cons,List.not_mem_nil,or_false] at hu
 rcases hu with rfl|rfl|rfl|rfl|rfl
 all_goals first|rfl|exact h
theorem Tryz.zre:(Tryz.prog.info? 54).map (·.size)=some 5:=by kernel_rfl
def zfu (w:World) (r:E Sg) (e:Ending) (w':World):Prop :=
 match r with
 | .ok s=>∃ pv,e=.returned (.tuple #[SgV s pv,.int .i64 0,.int .i64 0])∧zQd w' s.params (fun b=>w.heap.size≤b) pv∧Below w.heap.size w w'
 | .error (q,c)=>e=.returned (.tuple #[SgV sg0 (.slice none 0 0),.int .i64 q,.int .i64 c])∧Below w.heap.size w w'
theorem Tryz.zXs:∃ i z,zqe Tryz.prog 49 52 3 32 i z:=by
 have h:(Tryz.prog.info? 52).map (fun i=>(i.zero,i.size,i.bytes))=some (some (.agg #[.string ⟨#[]⟩,.int .i64 0,.int .i64 0]),3,32):=by kernel_rfl
 obtain ⟨i0,hi,hz0,hz1,hz2⟩:=info_parts h
 exact ⟨i0,_,Tryz.underlying49,hi,hz0,hz1,hz2,rfl⟩
theorem zkl {tys:List Ty} {n:T} {l:List Prm} {q:Nat} {c:Int} (h:zIl tys n l=.error (q,c)):c≠0:=by
 unfold zIl at h
 cases h1:l.any (zcd n.text)
 ·rw [h1] at h
  cases h2:zgd tys (zJa n 0) with
  | none=>rw [h2] at h;cases h;decide
  | some p =>
   rw [h2] at h
   simp only at h
   cases h3:zXd tys p l
   ·rw [h3] at h;cases h
   ·rw [h3] at h;cases h;decide
 ·rw [h1] at h;cases h;decide
theorem zwg {tys:List Ty} {l:List Prm} {n:T} {r:List T} {e:Nat × Int} (h:zIl tys n l=.error e):zaf tys l (n :: r)=.error e:=by rw [zaf,h]
theorem zsn {tys:List Ty} {l:List Prm} {n:T} {r:List T} {p:Prm} (h:zIl tys n l=.ok p):zaf tys l (n :: r)=zaf tys (l++[p]) r:=by rw [zaf,h]
theorem zpi {tys:List Ty} {n:T} (h:8<(zFe n.kids).params.length):zuj tys n=.error (n.place,22):=by unfold zuj;simp [h]
theorem zgm {tys:List Ty} {n:T} (h:¬ 8<(zFe n.kids).params.length):zuj tys n=match zaf tys [] (zFe n.kids).params with
  | .error e=>.error e
  | .ok l=>match zgd tys (zFe n.kids).res with
   | none=>.error ((zFe n.kids).res.place,31)
   | some r=>.ok ⟨n.text,l,r⟩:=by unfold zuj;rw [decide_eq_false h];rfl
structure zFs (w2 W:World) (s:ByteArray) (m:T) (rv:Value) (l:List Prm) (pv:Value):Prop where
 b:Below w2.heap.size w2 W
 p:Blk W w2.heap.size (zaa m rv) 25
 x:Blk W (w2.heap.size+1) (zka ⟨s,l,zyb⟩ pv) 54
 f:zQd W l (fun b=>w2.heap.size+1<b) pv
section
variable {w2 W W':World} {s:ByteArray} {m:T} {rv pv:Value} {l:List Prm}
theorem zFs.stay (h:zFs w2 W s m rv l pv) (hb:Below W.heap.size W W'):zFs w2 W' s m rv l pv :=
 ⟨h.b.trans (hb.mono (Nat.le_of_lt h.p.lt)),h.p.stays hb,h.x.stays hb,h.f.below hb⟩
theorem zFs.add (h:zFs w2 W s m rv l pv) (hg:W.grownBy W' pv.ownBlock) {l':List Prm} {pv':Value} (hf:zQd W' l' (fun b=>w2.heap.size+1<b) pv') :
  zFs w2 (W'.setCell ⟨w2.heap.size+1,1,none⟩ pv') s m rv l' pv':=by
 have hr:∀ k,pv.ownBlock=some k→w2.heap.size+1<k:=fun k hk=>h.f.2 k hk
 have hx:=h.x.grown hg (fun e=>by have:=hr _ e.symm;omega)
 have hp:=h.p.grown hg (fun e=>by have:=hr _ e.symm;omega)
 rw [setCell_eq_setRow W' (w2.heap.size+1) 1 _ _ (0,0) pv' hx]
 exact ⟨Below.row (h.b.grown hg (by have:=h.p.lt;omega) (fun k hk=>by have:=hr k hk;omega)) (by omega) _,hp.zta (w2.heap.size+1) _ (by omega),hx.zra (zka ⟨s,l',zyb⟩ pv'),hf.setRow _ _ (fun b hb=>by omega)⟩
end
theorem zpr {w:World} {A:Option Addr} {cap M:Nat} {tys:List Ty} (ht:Tys w A tys) (hlen:tys.length≤cap∧cap≤maxLen) (hm:MapAt w M tys) {t:T} {S:Nat→Prop} {kv:Value} (hk:KAt 25 w t.kids S kv) (hkl:t.kids.length≤4096)
  (hz:(∀ p∈(zFe t.kids).params,(zJa (zJa p 0) 0).text.size≤maxLen)∧(zJa (zFe t.kids).res 0).text.size≤maxLen) :
  Calls Tryz.prog 25 #[RV A tys.length cap M,zna t kv] w (zfu w (zuj tys t)):=by
 obtain ⟨i0,z0,I⟩:=Tryz.zXs
 obtain ⟨W0,hW0⟩:∃ W,((w.alloc (.cells (zBb A tys.length cap M).toArray 101)).alloc (.cells (zaa t kv).toArray 25)).alloc (.cells (zka sg0 (.slice none 0 0)).toArray 54)=W:=⟨_,rfl⟩
 have HB0:=zh (show Below w.heap.size w W0 from hW0▸((((Below.refl _ _).alloc (Nat.le_refl _) _).alloc (by simp) _).alloc (by simp;omega) _))
 have b1:=zh (show Blk W0 w.heap.size (zBb A tys.length cap M) 101 from hW0▸(((Blk.new w _ _).alloc _).alloc _))
 have b2:=zh (show Blk W0 (w.heap.size+1) (zaa t kv) 25 from hW0▸((Blk.zTe w _ _ _).alloc _))
 have b3:=zh (show Blk W0 (w.heap.size+1+1) (zka sg0 (.slice none 0 0)) 54 from hW0▸(by simpa using Blk.new ((w.alloc (.cells (zBb A tys.length cap M).toArray 101)).alloc (.cells (zaa t kv).toArray 25)) (zka sg0 (.slice none 0 0)) 54))
 have ZONE:=zWe sg0 (pv:=.slice none 0 0) rfl
 have HT:=zh ht
 have HM:=zh hm
 have HZ:=zh hz
 have HPA:=zh (zXn (hk.below HB0.out) hkl)
 unfold zBb zaa zka sg0 zyb at hW0
 unfold zna at HPA ⊢
 unfold RV
 clear ht hm hk hz
 have n0:=b2.out
 go_enter Tryz.func25,Tryz.ntmps25
 go_upto_region 1 with fail
 try rw [hW0]
 clear hW0
 go_wp2_with ((with_reducible refine zqa 25 (.tmp 3) ?_);refine zia rfl 25 (.tmp 3) rfl (w.heap.size+1) (zaa t kv) rfl n0 Tryz.underlying25 rfl Tryz.zea ?_)
 refine HPA.out.mono ?_
 clear HPA
 rintro e w2 ⟨fv,rv,rfl,hfp,hfr,hb⟩
 generalize hfe:zFe t.kids=fp at *
 obtain ⟨ps,m⟩:=fp
 simp only at hfp hfr ⊢
 obtain ⟨W2,hW2⟩:∃ W,w2.alloc (.cells (zaa m rv).toArray 25)=W:=⟨_,rfl⟩
 have hb2:Below w2.heap.size w2 W2:=hW2▸(Below.refl _ _).alloc (Nat.le_refl _) _
 have HBW:=zh (HB0.out.trans (hb.mono HB0.out.size))
 have HB2:=zh hb2
 have R2:=zh (b1.out.stays hb)
 have N2:=zh (b2.out.stays hb)
 have Z2:=zh (b3.out.stays hb)
 have hz2:w.heap.size+1+1<w2.heap.size:=Z2.out.lt
 have Q2:=zh (show Blk W2 w2.heap.size (zaa m rv) 25 from hW2▸Blk.new w2 _ _)
 have HFP:=zh hfp
 have HFR:=zh hfr
 have hr1:=hfr.one
 have hpl:ps.length≤4096:=by
  have h1:=congrArg (fun f:Fp=>f.params.length) hfe
  have h2:=List.length_filter_le (fun x:T=>x.kind == 7) t.kids
  simp only [zFe] at h1
  omega
 obtain ⟨fa,fc,rfl⟩:=hfp.len
 have HFE:=zh hfe
 clear hb hb2 hfp hfr n0 hfe
 unfold zna
 by_cases h8:8<ps.length
 ·have HRes:=zh (zpi (tys:=tys) (n:=t) (by rw [HFE.out];exact h8))
  have h8i:(8:Int)<(ps.length:Int):=by omega
  go_wp2_with ((with_reducible refine zla 25 (.tmp 8) ?_);refine zga rfl 25 (.tmp 8) (.tmp 21) rfl (zaa m rv) (old:=zba) rfl rfl Tryz.zea rfl (zca _ _ hr1) ?_;rw [hW2])
  clear hW2
  have N3:=zh (N2.out.stays HB2.out)
  have Z3:=zh (Z2.out.stays HB2.out)
  have HB3:=zh (HBW.out.trans (HB2.out.mono HBW.out.size))
  go_upto_region 3 with fail
  refine wp_region_held_drew (S:=fun W=>Blk W (w.heap.size+1) (zaa t (kv)) 25∧Blk W (w.heap.size+1+1) (zka sg0 (.slice none 0 0)) 54) (by kernel_rfl) ⟨N3.out,Z3.out⟩ (fun hS=>?_)
  refine wpAnyH_take (i:=0) (oi:=⟨some 25,_,_,_,_,_⟩) (v:=.agg (zka sg0 (.slice none 0 0)).toArray) rfl (by kernel_rfl) (by kernel_rfl) (by kernel_rfl) (fun _ _ _ h=>h) (Or.inl ⟨by rfl,fun W _=>by unfold zka sg0 zyb;go_simp⟩) hS ?_
  try simp only [Act.put,List.setIfInBounds_toArray,List.set_cons_zero,List.set_cons_succ]
  refine wpAnyH_take (i:=1) (oi:=⟨some 26,_,_,_,_,_⟩) (v:=.pointer (some ⟨(w.heap.size+1),3,none⟩)) rfl (by kernel_rfl) (by kernel_rfl) (by kernel_rfl) (fun _ _ _ h=>h) (Or.inl ⟨by rfl,fun W _=>by go_simp⟩) hS ?_
  try simp only [Act.put,List.setIfInBounds_toArray,List.set_cons_zero,List.set_cons_succ]
  refine wpAnyH_take (i:=2) (oi:=⟨some 27,_,_,_,_,_⟩) (v:=.int .i64 (t).place) rfl (by kernel_rfl) (by kernel_rfl) (by kernel_rfl) (fun _ _ _ h=>h) (Or.inl ⟨by rfl,fun W hW=>by have hcx:W.cell? ⟨(w.heap.size+1),3,none⟩=some (.int .i64 (t).place):=hW.1.cell 3;go_simp⟩) hS ?_
  try simp only [Act.put,List.setIfInBounds_toArray,List.set_cons_zero,List.set_cons_succ]
  refine AnyH.only (i:=3) (o:=⟨none,_,_,_,_,_⟩) (by kernel_rfl) rfl (by rfl) (fun K hK=>?_)
  refine zva 54 (.tmp 4) (.tmp 25) rfl ((w.heap.size+1+1)) (zka sg0 (.slice none 0 0)) rfl rfl hS.2 Tryz.zre rfl ZONE ?_
  have hS3:Blk (World.setRow _ ((w.heap.size+1+1)) (zka sg0 (.slice none 0 0)).toArray) (w.heap.size+1) (zaa t (kv)) 25∧Blk (World.setRow _ ((w.heap.size+1+1)) (zka sg0 (.slice none 0 0)).toArray) (w.heap.size+1+1) (zka sg0 (.slice none 0 0)) 54:=⟨hS.1.zta _ _ (by omega),hS.2.zra _⟩
  refine hK.out _ _ hS3 ?_
  clear hK K hS
  try simp only [Act.put]
  refine wpAnyH_take (i:=4) (oi:=⟨some 5,_,_,_,_,_⟩) (v:=.int .i64 (t).place) rfl (by kernel_rfl) (by kernel_rfl) (by kernel_rfl) (fun _ _ _ h=>h) (Or.inl ⟨by rfl,fun W _=>by go_simp⟩) hS3 ?_
  try simp only [Act.put,List.setIfInBounds_toArray,List.set_cons_zero,List.set_cons_succ]
  refine wpAnyH_take (i:=5) (oi:=⟨some 6,_,_,_,_,_⟩) (v:=.int .i64 22) rfl (by kernel_rfl) (by kernel_rfl) (by kernel_rfl) (fun _ _ _ h=>h) (Or.inl ⟨by rfl,fun W _=>by go_simp⟩) hS3 ?_
  try simp only [Act.put,List.setIfInBounds_toArray,List.set_cons_zero,List.set_cons_succ]
  refine wpAnyH_done (by kernel_rfl) ?_ _
  go_wp2_with fail
  refine ztb (cs:=zka sg0 (.slice none 0 0)) Tryz.results25 rfl hS3.2 Tryz.underlying54 rfl Tryz.zre rfl rfl rfl ?_
  rw [HRes.out]
  exact ⟨rfl,Below.row (HB3.out).drew (by omega) _⟩
 ·have HGO:=zh (zgm (tys:=tys) (n:=t) (by rw [HFE.out];exact h8))
  rw [HFE.out] at HGO
  simp only at HGO
  have h8i:¬ (8:Int)<(ps.length:Int):=by omega
  have h8p:ps.length≤8:=by omega
  obtain ⟨W3,hW3⟩:∃ W,W2.alloc (.cells (zka ⟨t.text,[],zyb⟩ (.slice none 0 0)).toArray 54)=W:=⟨_,rfl⟩
  have hsz2:W2.heap.size=w2.heap.size+1:=by rw [← hW2];simp
  have HS3:=zh (show zFs w2 W3 t.text m rv [] (.slice none 0 0) from hW3▸⟨HB2.out.alloc (by omega) _,Q2.out.alloc _,hsz2▸Blk.new W2 _ _,RAt.nil _ _⟩)
  have n21:W2.cell? ⟨w.heap.size+1,1,none⟩=some (.string t.text):=(N2.out.stays HB2.out).cell 1
  go_upto_region 4 with ((with_reducible refine zla 25 (.tmp 8) ?_);refine zga rfl 25 (.tmp 8) (.tmp 21) rfl (zaa m rv) (old:=zba) rfl rfl Tryz.zea rfl (zca _ _ hr1) ?_;rw [hW2])
  clear hW2
  have HSZ:=zh hsz2
  clear hsz2
  go_upto_region 5 with ((with_reducible refine zla 54 (.tmp 9) ?_);refine zga rfl 54 (.tmp 9) (.tmp 30) rfl (zka ⟨t.text,[],zyb⟩ (.slice none 0 0)) (old:=zka sg0 (.slice none 0 0)) rfl rfl Tryz.zre rfl (zWe _ rfl) ?_;rw [hW3])
  rw [HSZ.out]
  clear hW3 n21
  go_wp2_with fail
  go_loopw [33] (fun i wr=>∃ k:Nat,k≤ps.length∧i=.int .i64 k∧∃ l pv,zFs w2 wr t.text m rv l pv∧l.length=k∧zaf tys [] ps=zaf tys l (ps.drop k)) (fun i _=>ps.length-(intOf i).toNat)
  case atStart=>exact ⟨0,by omega,rfl,[],_,HS3.out,rfl,by rw [List.drop_zero]⟩
  case round =>
   obtain ⟨k,hkk,rfl,l,pv,hst,hll,heq⟩:=hrel
   have HLL:=zh hll
   clear hll
   have HST:=zh hst
   have HBR:=zh (HBW.out.trans (hst.b.mono HBW.out.size))
   have R3:=zh (R2.out.stays hst.b)
   have N3:=zh (N2.out.stays hst.b)
   have Z3:=zh (Z2.out.stays hst.b)
   have hwr:w2.heap.size+1<wr.heap.size:=hst.x.lt
   by_cases hlt:k<ps.length
   ·obtain ⟨tk,htk⟩:∃ tk,ps[k]?=some tk:=⟨_,List.getElem?_eq_getElem hlt⟩
    obtain ⟨g,cp,hsl,hgl,hcap,hcm,hget⟩:=(HFP.out.form).resolve_left fun h=>by rw [h.2] at hlt;simp at hlt
    obtain ⟨rfl,rfl⟩:fa=some ⟨g,0,none⟩∧fc=cp:=by simpa using hsl
    obtain ⟨u,hr,hu⟩:=hget k tk htk
    have HR:=zh (zua hr hst.b hgl)
    have HEQ:=zh (heq.trans (show _=zaf tys l (tk :: ps.drop (k+1)) by rw [List.drop_eq_getElem_cons hlt,(List.getElem?_eq_some_iff.1 htk).2]))
    obtain ⟨W4,hW4⟩:∃ W,wr.alloc (.cells (zaa tk u).toArray 25)=W:=⟨_,rfl⟩
    have hb1:Below wr.heap.size wr W4:=hW4▸(Below.refl _ _).alloc (Nat.le_refl _) _
    have HS4:=zh (hst.stay hb1)
    have HB4:=zh (HBR.out.trans (hb1.mono HBR.out.size))
    have HB5:=zh (show Blk W4 wr.heap.size (zaa tk u) 25 from hW4▸Blk.new wr _ _)
    have HU:=zh (hu.kat.below HS4.out.b)
    have hu1:=hu.one'
    have HPM:=zh (zyo (HT.out.below HB4.out) hlen (HM.out.below HB4.out) HU.out (HZ.out.1 tk (List.mem_of_getElem? htk)) HS4.out.f)
    obtain ⟨va,vc,rfl⟩:=hst.f.slice
    have x41:W4.cell? ⟨w2.heap.size+1,1,none⟩=some (.slice va l.length vc):=HS4.out.x.cell 1
    have hb5:=HB5.out
    have r4:=R3.out.stays hb1
    unfold RV zna at HPM
    clear hget hr hu hst hsl heq htk hb1
    go_wp2_with (first
     | ((with_reducible refine zqa 25 (.tmp 35) ?_);refine wpList_load_mid rfl 25 (.tmp 35) rfl g (k * 5) rfl (zaa tk u) _ HR.out Tryz.underlying25 rfl Tryz.zea ?_)
     | ((with_reducible refine zla 25 (.tmp 11) ?_);refine zga rfl 25 (.tmp 11) (.tmp 36) rfl (zaa tk u) (old:=zba) rfl rfl Tryz.zea rfl (zca _ _ hu1) ?_;rw [hW4])
     | ((with_reducible refine zqa 101 (.tmp 2) ?_);refine zia rfl 101 (.tmp 2) rfl w.heap.size (zBb A tys.length cap M) rfl r4 Tryz.underlying101 rfl Tryz.zEi ?_)
     | ((with_reducible refine zqa 25 (.tmp 11) ?_);refine zia rfl 25 (.tmp 11) rfl wr.heap.size (zaa tk u) rfl hb5 Tryz.underlying25 rfl Tryz.zea ?_))
    refine HPM.out.mono ?_
    clear HPM hb5 r4 hW4 x41
    intro e w5 hp
    cases ho:zIl tys tk l with
    | error pc =>
     obtain ⟨q,c⟩:=pc
     rw [ho] at hp
     obtain ⟨rfl,hb⟩:=hp
     have HRes:=zh (show zuj tys t=.error (q,c) from by rw [HGO.out,HEQ.out,zwg ho])
     have hc0:=zkl ho
     have hc1:(c != 0)=true:=by simpa using hc0
     have HS5:=zh (HS4.out.stay hb)
     have HB5:=zh (HB4.out.trans (hb.mono HB4.out.size))
     obtain ⟨W6,hW6⟩:∃ W,w5.alloc (.cells (zja zyb).toArray 52)=W:=⟨_,rfl⟩
     have hb2:Below w5.heap.size w5 W6:=hW6▸(Below.refl _ _).alloc (Nat.le_refl _) _
     have z6:=Z2.out.stays (HS5.out.stay hb2).b
     have HB6:=zh (HB5.out.trans (hb2.mono HB5.out.size))
     have hZ:=ZONE
     clear hb hb2 ho hc0
     unfold zzh
     go_wp2_with (first
      | ((with_reducible refine zla 52 (.tmp 12) ?_);refine zga rfl 52 (.tmp 12) (.tmp 43) rfl (zja zyb) (old:=zja zyb) rfl rfl Tryz.zzb rfl (zsb _) ?_;rw [hW6])
      | ((with_reducible refine zla 54 (.tmp 4) ?_);refine zda rfl 54 (.tmp 4) (.tmp 48) rfl (w.heap.size+1+1) (zka sg0 (.slice none 0 0)) rfl rfl z6 Tryz.zre rfl hZ ?_))
     refine ztb (cs:=zka sg0 (.slice none 0 0)) Tryz.results25 rfl (z6.zra (zka sg0 (.slice none 0 0))) Tryz.underlying54 rfl Tryz.zre rfl rfl rfl ?_
     rw [HRes.out]
     exact ⟨rfl,Below.row HB6.out (by omega) _⟩
    | ok p =>
     rw [ho] at hp
     obtain ⟨rfl,hb⟩:=hp
     have HN:=zh (HEQ.out.trans (zsn ho))
     have HS5:=zh (HS4.out.stay hb)
     obtain ⟨W6,hW6⟩:∃ W,w5.alloc (.cells (zja p).toArray 52)=W:=⟨_,rfl⟩
     have hb2:Below w5.heap.size w5 W6:=hW6▸(Below.refl _ _).alloc (Nat.le_refl _) _
     have HS6:=zh (HS5.out.stay hb2)
     have HX6:=zh (show Blk W6 w5.heap.size (zja p) 52 from hW6▸Blk.new w5 _ _)
     have HS7:=zh (HS6.out.stay ((Below.refl W6.heap.size W6).alloc (Nat.le_refl _) (.cells (zja p).toArray 52)))
     have HLT:=zh (RAt.lit (e:=52) (m:=3) (c:=zja) W6 [p] (zja p) 1 rfl (by simp) rfl (by decide) (fun _=>True) trivial)
     have x61:W6.cell? ⟨w2.heap.size+1,1,none⟩=some (.slice va l.length vc):=HS6.out.x.cell 1
     have x6:=HX6.out
     have hn3:(zja p).length=3:=rfl
     clear hb hb2 ho
     unfold zzh
     go_wp2_with (first
      | ((with_reducible refine zla 52 (.tmp 12) ?_);refine zga rfl 52 (.tmp 12) (.tmp 43) rfl (zja p) (old:=zja zyb) rfl rfl Tryz.zzb rfl (zsb _) ?_;rw [hW6])
      | ((with_reducible refine zqa 52 (.tmp 12) ?_);refine zia rfl 52 (.tmp 12) rfl w5.heap.size (zja p) rfl x6 Tryz.underlying52 rfl Tryz.zzb ?_)
      | (at_builtin;refine zxb ztf zsb (by omega) (by omega) rfl (.tmp 52) (.tmp 54) rfl I rfl HS7.out.f rfl HLT.out ?c3 ?c4 ?_))
     case c3=>exact HS7.out.x.lt
     case c4=>have:=HLL.out;simp;omega
     intro v' w8 hv' hg'
     have HS8:=zh (HS7.out.add hg' hv')
     have x8:=HS7.out.x.grown hg' (fun e=>by have:=HS7.out.f.2 _ e.symm;omega)
     have x81:w8.cell? ⟨w2.heap.size+1,1,none⟩=some (.slice va l.length vc):=x8.cell 1
     have f81:w8.frozen? ⟨w2.heap.size+1,1,none⟩=false:=(x8.there 1 1 (by simp [zka]) 0 (by omega)).2
     obtain ⟨va2,vc2,rfl⟩:=hv'.slice
     rw [show (l++[p]).length=l.length+1 by simp] at HS8
     clear hv' hg' x8 x61 x6 hW6
     go_wp2
     go_roundw
     case rel=>exact ⟨k+1,by omega,by go_num,_,_,HS8.out,by have:=HLL.out;simp;omega,HN.out⟩
     case measure=>simp [intOf];omega
   ·obtain rfl:k=ps.length:=by omega
    have HRes:=zh (show zaf tys [] ps=.ok l by rw [heq,List.drop_length];rfl)
    have HHD:=zh (zij (A:=A) (n:=tys.length) (cap:=cap) (HM.out.below HBR.out) (HFR.out.below HST.out.b) HZ.out.2)
    have p3:=HST.out.p
    have r3:=R3.out
    unfold RV zna at HHD
    clear heq hst
    go_wp2_with (first
     | ((with_reducible refine zqa 101 (.tmp 2) ?_);refine zia rfl 101 (.tmp 2) rfl w.heap.size (zBb A tys.length cap M) rfl r3 Tryz.underlying101 rfl Tryz.zEi ?_)
     | ((with_reducible refine zqa 25 (.tmp 8) ?_);refine zia rfl 25 (.tmp 8) rfl w2.heap.size (zaa m rv) rfl p3 Tryz.underlying25 rfl Tryz.zea ?_))
    refine HHD.out.mono ?_
    clear HHD p3 r3
    rintro e w5 ⟨rfl,hb⟩
    have HS5:=zh (HST.out.stay hb)
    have HB5:=zh (HBR.out.trans (hb.mono HBR.out.size))
    obtain ⟨W6,hW6⟩:∃ W,w5.alloc (.cells (zja ((zgd tys m).getD zyb)).toArray 52)=W:=⟨_,rfl⟩
    have hb2:Below w5.heap.size w5 W6:=hW6▸(Below.refl _ _).alloc (Nat.le_refl _) _
    have HS6:=zh (HS5.out.stay hb2)
    have HB6:=zh (HB5.out.trans (hb2.mono HB5.out.size))
    have Z6:=zh (Z2.out.stays HS6.out.b)
    have HX6:=zh (show Blk W6 w5.heap.size (zja ((zgd tys m).getD zyb)) 52 from hW6▸Blk.new w5 _ _)
    have hg5:w2.heap.size+1<w5.heap.size:=HS5.out.x.lt
    clear hb hb2
    cases hh:zgd tys m with
    | none =>
     have HR2:=zh (show zuj tys t=.error (m.place,31) from by rw [HGO.out,HRes.out];simp only [hh])
     rw [hh] at hW6
     simp only [zFu,Option.getD_none] at hW6 ⊢
     unfold zzh
     go_upto_region 15 with ((with_reducible refine zla 52 (.tmp 15) ?_);refine zga rfl 52 (.tmp 15) (.tmp 62) rfl (zja zyb) (old:=zja zyb) rfl rfl Tryz.zzb rfl (zsb _) ?_;rw [hW6])
     clear hW6
     have p6:=HS6.out.p
     go_upto_region 15 with fail
     refine wp_region_held_drew (S:=fun W=>Blk W w2.heap.size (zaa m rv) 25∧Blk W (w.heap.size+1+1) (zka sg0 (.slice none 0 0)) 54) (by kernel_rfl) ⟨p6,Z6.out⟩ (fun hS=>?_)
     refine wpAnyH_take (i:=0) (oi:=⟨some 66,_,_,_,_,_⟩) (v:=.agg (zka sg0 (.slice none 0 0)).toArray) rfl (by kernel_rfl) (by kernel_rfl) (by kernel_rfl) (fun _ _ _ h=>h) (Or.inl ⟨by rfl,fun W _=>by unfold zka sg0 zyb;go_simp⟩) hS ?_
     try simp only [Act.put,List.setIfInBounds_toArray,List.set_cons_zero,List.set_cons_succ]
     refine wpAnyH_take (i:=1) (oi:=⟨some 67,_,_,_,_,_⟩) (v:=.pointer (some ⟨w2.heap.size,3,none⟩)) rfl (by kernel_rfl) (by kernel_rfl) (by kernel_rfl) (fun _ _ _ h=>h) (Or.inl ⟨by rfl,fun W _=>by go_simp⟩) hS ?_
     try simp only [Act.put,List.setIfInBounds_toArray,List.set_cons_zero,List.set_cons_succ]
     refine wpAnyH_take (i:=2) (oi:=⟨some 68,_,_,_,_,_⟩) (v:=.int .i64 (m).place) rfl (by kernel_rfl) (by kernel_rfl) (by kernel_rfl) (fun _ _ _ h=>h) (Or.inl ⟨by rfl,fun W hW=>by have hcx:W.cell? ⟨w2.heap.size,3,none⟩=some (.int .i64 (m).place):=hW.1.cell 3;go_simp⟩) hS ?_
     try simp only [Act.put,List.setIfInBounds_toArray,List.set_cons_zero,List.set_cons_succ]
     refine wpAnyH_take (i:=3) (oi:=⟨some 69,_,_,_,_,_⟩) (v:=.int .i64 31) rfl (by kernel_rfl) (by kernel_rfl) (by kernel_rfl) (fun _ _ _ h=>h) (Or.inl ⟨by rfl,fun W _=>by go_simp⟩) hS ?_
     try simp only [Act.put,List.setIfInBounds_toArray,List.set_cons_zero,List.set_cons_succ]
     refine AnyH.only (i:=4) (o:=⟨none,_,_,_,_,_⟩) (by kernel_rfl) rfl (by rfl) (fun K hK=>?_)
     refine zva 54 (.tmp 4) (.tmp 66) rfl ((w.heap.size+1+1)) (zka sg0 (.slice none 0 0)) rfl rfl hS.2 Tryz.zre rfl ZONE ?_
     have hS3:Blk (World.setRow _ ((w.heap.size+1+1)) (zka sg0 (.slice none 0 0)).toArray) w2.heap.size (zaa m rv) 25∧Blk (World.setRow _ ((w.heap.size+1+1)) (zka sg0 (.slice none 0 0)).toArray) (w.heap.size+1+1) (zka sg0 (.slice none 0 0)) 54:=⟨hS.1.zta _ _ (by omega),hS.2.zra _⟩
     refine hK.out _ _ hS3 ?_
     clear hK K hS
     try simp only [Act.put]
     refine wpAnyH_take (i:=5) (oi:=⟨some 5,_,_,_,_,_⟩) (v:=.int .i64 (m).place) rfl (by kernel_rfl) (by kernel_rfl) (by kernel_rfl) (fun _ _ _ h=>h) (Or.inl ⟨by rfl,fun W _=>by go_simp⟩) hS3 ?_
     try simp only [Act.put,List.setIfInBounds_toArray,List.set_cons_zero,List.set_cons_succ]
     refine wpAnyH_take (i:=6) (oi:=⟨some 6,_,_,_,_,_⟩) (v:=.int .i64 31) rfl (by kernel_rfl) (by kernel_rfl) (by kernel_rfl) (fun _ _ _ h=>h) (Or.inl ⟨by rfl,fun W _=>by go_simp⟩) hS3 ?_
     try simp only [Act.put,List.setIfInBounds_toArray,List.set_cons_zero,List.set_cons_succ]
     refine wpAnyH_done (by kernel_rfl) ?_ _
     go_wp2_with fail
     refine ztb (cs:=zka sg0 (.slice none 0 0)) Tryz.results25 rfl hS3.2 Tryz.underlying54 rfl Tryz.zre rfl rfl rfl ?_
     rw [HR2.out]
     exact ⟨rfl,Below.row (HB6.out).drew (by omega) _⟩
    | some r =>
     have HR2:=zh (show zuj tys t=.ok ⟨t.text,l,r⟩ from by rw [HGO.out,HRes.out];simp only [hh])
     rw [hh] at hW6 HX6
     simp only [zFu,Option.getD_some] at hW6 HX6 ⊢
     have x6:=HX6.out
     have y6:=HS6.out.x
     obtain ⟨W7,hW7⟩:∃ W,W6.setRow (w2.heap.size+1) (zka ⟨t.text,l,r⟩ pv).toArray=W:=⟨_,rfl⟩
     have HEQ:=zh ((zad (zja r) 2 W6 (zka ⟨t.text,l,zyb⟩ pv) y6).trans hW7)
     have y7:Blk W7 (w2.heap.size+1) (zka ⟨t.text,l,r⟩ pv) 54:=hW7▸y6.zra _
     have z7:Blk W7 (w.heap.size+1+1) (zka sg0 (.slice none 0 0)) 54:=hW7▸Z6.out.zta _ _ (by omega)
     have HB7:=zh (show Below w.heap.size w W7 from hW7▸Below.row HB6.out (by omega) _)
     have HF7:=zh (show zQd W7 l (fun b=>w2.heap.size+1<b) pv from hW7▸HS6.out.f.setRow _ _ (fun b hb=>by omega))
     have hone:=zWe ⟨t.text,l,r⟩ HS6.out.f.one
     clear hW7
     unfold zzh
     go_wp2_with (first
      | ((with_reducible refine zla 52 (.tmp 15) ?_);refine zga rfl 52 (.tmp 15) (.tmp 62) rfl (zja r) (old:=zja zyb) rfl rfl Tryz.zzb rfl (zsb _) ?_;rw [hW6])
      | ((with_reducible refine zqa 52 (.tmp 15) ?_);refine zia rfl 52 (.tmp 15) rfl w5.heap.size (zja r) rfl x6 Tryz.underlying52 rfl Tryz.zzb ?_)
      | ((with_reducible refine zla 52 (.tmp 71) ?_);refine wpList_store_mid rfl 52 (.tmp 71) (.tmp 70) rfl (w2.heap.size+1) 2 (zja r).toArray rfl rfl (y6.there 2 3 (by simp [zka])) Tryz.zzb (all_oneCell_toArray (zsb _)) ?_;rw [List.toList_toArray,HEQ.out])
      | ((with_reducible refine zqa 54 (.tmp 9) ?_);refine zia rfl 54 (.tmp 9) rfl (w2.heap.size+1) (zka ⟨t.text,l,r⟩ pv) rfl y7 Tryz.underlying54 rfl Tryz.zre ?_)
      | ((with_reducible refine zla 54 (.tmp 4) ?_);refine zda rfl 54 (.tmp 4) (.tmp 72) rfl (w.heap.size+1+1) (zka ⟨t.text,l,r⟩ pv) rfl rfl z7 Tryz.zre rfl hone ?_))
     refine ztb (cs:=zka ⟨t.text,l,r⟩ pv) Tryz.results25 rfl (z7.zra (zka ⟨t.text,l,r⟩ pv)) Tryz.underlying54 rfl Tryz.zre rfl rfl rfl ?_
     rw [HR2.out]
     exact ⟨pv,rfl,(HF7.out.setRow _ _ (fun b hb=>by omega)).mono (fun b hb _=>by omega),Below.row HB7.out (by omega) _⟩
end
section
open Go.RowKit Go.Maps
def zEh:List Sg→List Value→List Value
 | c :: cs,u :: us=>zka c u++zEh cs us
 | _,_=>[]
def znd (w:World):List Sg→(Nat→Prop)→List Value→Prop
 | [],_,us=>us=[]
 | c :: cs,S,us=>∃ u us',us=u :: us'∧zQd w c.params S u∧znd w cs S us'
def zNe (w:World) (cs:List Sg) (S:Nat→Prop) (v:Value):Prop :=
 ∃ us,w.ownsRow 0 54 5 v cs.length (zEh cs us)∧(∀ g,v.ownBlock=some g→S g)∧znd w cs (fun b=>S b∧v.ownBlock≠some b) us
theorem znd.keep {w w':World}:∀ (cs:List Sg) {S S':Nat→Prop} {us:List Value},znd w cs S us→(∀ b,S b→b<w.heap.size→S' b∧w'.heap[b]?=w.heap[b]?)→znd w' cs S' us
 | [],_,_,_,h,_=>h
 | c :: cs,S,S',us,h,hk=>by
  obtain ⟨u,us',e,ha,hs⟩:=h
  exact ⟨u,us',e,ha.keep hk,znd.keep cs hs hk⟩
theorem zNe.keep {w w':World} {cs:List Sg} {S S':Nat→Prop} {v:Value} (h:zNe w cs S v) (hk:∀ b,S b→b<w.heap.size→S' b∧w'.heap[b]?=w.heap[b]?):zNe w' cs S' v:=by
 obtain ⟨us,ho,hS,ha⟩:=h
 exact ⟨us,zed ho fun g hg=>(hk g (hS g hg) (ho.lt g hg).2).2,fun g hg=>(hk g (hS g hg) (ho.lt g hg).2).1,znd.keep cs ha fun b hb hl=>⟨⟨(hk b hb.1 hl).1,hb.2⟩,(hk b hb.1 hl).2⟩⟩
theorem zNe.below {w w':World} {cs:List Sg} {S:Nat→Prop} {v:Value} (h:zNe w cs S v) (hk:Below w.heap.size w w'):zNe w' cs S v:=h.keep fun b hb hl=>⟨hb,hk.block b hl⟩
theorem zNe.nil (w:World) (S:Nat→Prop):zNe w [] S (.slice none 0 0):=⟨[],World.ownsRow_nil _ _ _ _,(fun g h=>by simp [Value.ownBlock] at h),rfl⟩
theorem znd.length {w:World}:∀ {cs:List Sg} {S:Nat→Prop} {us:List Value},znd w cs S us→us.length=cs.length
 | [],_,_,h=>by rw [show _=[] from h];rfl
 | c :: cs,_,_,h=>by obtain ⟨u,us',rfl,_,h'⟩:=h;simp [znd.length h']
theorem znd.snoc {w:World}:∀ {cs:List Sg} {c:Sg} {S:Nat→Prop} {us:List Value} {u:Value},znd w cs S us→zQd w c.params S u→znd w (cs++[c]) S (us++[u])
 | [],c,_,us,u,h,h'=>by rw [show us=[] from h];exact ⟨u,[],rfl,h',rfl⟩
 | a :: cs,c,_,_,u,h,h'=>by
  obtain ⟨v,us',rfl,ha,hs⟩:=h
  exact ⟨v,us'++[u],rfl,ha,znd.snoc hs h'⟩
theorem zah:∀ (cs:List Sg) (c:Sg) (us:List Value) (u:Value),us.length=cs.length→zEh (cs++[c]) (us++[u])=zEh cs us++zka c u
 | [],c,[],u,_=>by simp [zEh]
 | a :: cs,c,v :: us,u,h=>by
  simp only [List.cons_append,zEh,List.append_assoc]
  rw [zah cs c us u (by simpa using h)]
theorem zIi:∀ (cs:List Sg) (us:List Value) (k:Nat) (c:Sg) (u:Value) (j:Nat),cs[k]?=some c→us[k]?=some u→j<5→(zEh cs us)[k * 5+j]?=(zka c u)[j]?
 | [],_,k,t,u,j,h,_,_=>by simp at h
 | _ :: _,[],k,t,u,j,_,h,_=>by simp at h
 | a :: ks,b :: vs,0,t,u,j,h,h',hj=>by
  obtain rfl:a=t:=by simpa using h
  obtain rfl:b=u:=by simpa using h'
  rw [zEh,Nat.zero_mul,Nat.zero_add,List.getElem?_append_left (by simpa [zka] using hj)]
 | a :: ks,b :: vs,k+1,t,u,j,h,h',hj=>by
  rw [zEh,List.getElem?_append_right (by simp [zka];omega)]
  have e:(k+1) * 5+j-(zka a b).length=k * 5+j:=by simp [zka];omega
  rw [e]
  exact zIi ks vs k t u j (by simpa using h) (by simpa using h') hj
theorem znd.get {w:World}:∀ {cs:List Sg} {S:Nat→Prop} {us:List Value},znd w cs S us→∀ {k:Nat} {c:Sg},cs[k]?=some c→∃ u,us[k]?=some u∧zQd w c.params S u
 | [],_,_,_,k,t,h=>by simp at h
 | a :: ts,S,vs,h,0,t,hk=>by
  obtain ⟨v,vs',rfl,ht,_⟩:=h
  obtain rfl:a=t:=by simpa using hk
  exact ⟨v,rfl,ht⟩
 | a :: ts,S,vs,h,k+1,t,hk=>by
  obtain ⟨v,vs',rfl,_,hts⟩:=h
  obtain ⟨u,hu,ht⟩:=znd.get hts (k:=k) (c:=t) (by simpa using hk)
  exact ⟨u,by simpa using hu,ht⟩
theorem zNe.slice {w:World} {cs:List Sg} {S:Nat→Prop} {v:Value} (h:zNe w cs S v):∃ a c,v=.slice a cs.length c:=by
 obtain ⟨_,ho,_⟩:=h
 rcases ho.2 with ⟨rfl,h0⟩|⟨g,cap,_,rfl,_⟩
 ·exact ⟨_,_,by rw [h0]⟩
 ·exact ⟨_,_,rfl⟩
theorem zNe.lt {w:World} {cs:List Sg} {S:Nat→Prop} {v:Value} (h:zNe w cs S v) {g:Nat} (hg:v.ownBlock=some g):S g∧g<w.heap.size:=by
 obtain ⟨_,ho,hS,_⟩:=h
 exact ⟨hS g hg,(ho.lt g hg).2⟩
theorem zNe.form {w:World} {cs:List Sg} {S:Nat→Prop} {v:Value} (h:zNe w cs S v):(v=.slice none 0 0∧cs=[])∨∃ g cap,v=.slice (some ⟨g,0,none⟩) cs.length cap∧(S g∧g<w.heap.size)∧cs.length≤cap∧cap≤maxLen ∧
  ∀ k c,cs[k]?=some c→∃ p,w.rangeAt g (k * 5) (zka c p)∧zQd w c.params S p:=by
 obtain ⟨us,ho,hS,hts⟩:=h
 have ho':=ho
 rcases ho.2 with ⟨rfl,h0⟩|⟨g,cap,cur,rfl,hb,hg,hnc,hcm,hcs,htake⟩
 ·exact .inl ⟨rfl,List.eq_nil_of_length_eq_zero h0⟩
 ·refine .inr ⟨g,cap,rfl,⟨hS g rfl,(Array.getElem?_eq_some_iff.1 hg).1⟩,hnc,hcm,fun k c hk=>?_⟩
  obtain ⟨u,hu,ht⟩:=hts.get hk
  refine ⟨u,fun j x hj=>?_,ht.keep fun b hb hl=>⟨hb.1,rfl⟩⟩
  have hj5:j<5:=by have:=(List.getElem?_eq_some_iff.1 hj).1;simpa [zka] using this
  have hlt:k<cs.length:=(List.getElem?_eq_some_iff.1 hk).1
  rw [ho'.cellAt (k * 5+j) (by omega),zIi cs us k c u j hk hu hj5]
  exact hj
theorem zAh {P:Program} {w:World} {ops:Array Oper} {rest:List Oper} {o:Oper} {a:Act} {Q:Exit→Act→World→Prop} (hgd:o.guard=none) (s x:Operand) {t:TypeId} (ho:o.op=.call { callee:=.builtin .append,args:=#[s,x],argTypes:=#[t,t] })
  {i:TypeInfo} {z:Value} (I:zqe P t 54 5 72 i z) {cs:List Sg} {c:Sg} {S:Nat→Prop} {v p:Value} (hs:a.eval s=v) (hk:zNe w cs S v) (hS:S w.heap.size) {b cc:Nat} (hx:a.eval x=.slice (some ⟨b,0,none⟩) 1 cc)
  (hg:Blk w b (zka c p) 54) (hc:zQd w c.params (fun b=>S b∧v.ownBlock≠some b) p) (hb:cs.length+1≤2000000)
  (h:∀ v' w',zNe w' (cs++[c]) S v'→w.grownBy w' v.ownBlock→wpList P ops Q rest (a.put o.dst v') w'):wpList P ops Q (o :: rest) a w:=by
 refine wpList_plain hgd fun _ hK=>?_
 obtain ⟨us,hown,hSv,hks⟩:=hk
 have hnews:∀ j y,(zka c p)[j]?=some y→w.cell? ((⟨b,0,none⟩:Addr).add j)=some y:=fun j y hj=>by rw [Addr.add_mid,Nat.zero_add,hg.cell j];exact hj
 have hbb:(cs.length+1) * 72≤140737488355328:=by omega
 obtain ⟨v',w',hr,ho',hg',_⟩:=run_append_own (P:=P) w 0 t o.type 54 i z 5 72 I.ht I.hi I.hz I.size I.bytes I.zs (by decide) v cs.length (zEh cs us) hown ⟨b,0,none⟩ 1 cc (zka c p) rfl hnews (zWe c hc.one) (by unfold maxLen;omega) hbb (Nat.zero_le _)
 have hbk:=zbe (ty:=o.type) I.ht I.hi I.hz I.size I.bytes hown (by omega) rfl hnews (zWe c hc.one) (by unfold maxLen;omega) hbb hr
 unfold Oper.wp execOp
 simp only [ho,resolve,invoke,builtin,Sem.run_bind,Sem.run_pure,Result.andThen_ok,List.map_toArray,List.map_cons,List.map_nil,hs,hx]
 rw [hr]
 have keep:∀ b,(S b∧v.ownBlock≠some b)→b<w.heap.size→(S b∧v'.ownBlock≠some b)∧w'.heap[b]?=w.heap[b]?:=fun b hb hl=>by
  refine ⟨⟨hb.1,fun h=>?_⟩,hg'.block b hl (Ne.symm hb.2)⟩
  rcases hbk with h'|h'
  ·exact hb.2 (h'▸h)
  ·rw [h'] at h;cases h;exact absurd hl (Nat.lt_irrefl _)
 refine hK _ _ (h v' w' ⟨us++[p],?_,?_,?_⟩ hg')
 ·rw [zah _ _ _ _ hks.length,List.length_append]
  exact ho'
 ·intro g hg2
  rcases hbk with h|h
  ·exact hSv g (h▸hg2)
  ·rw [h] at hg2;cases hg2;exact hS
 ·exact znd.snoc (znd.keep _ hks keep) (hc.keep keep)
theorem Tryz.zZu:∃ i z,zqe Tryz.prog 42 54 5 72 i z:=by
 have h:(Tryz.prog.info? 54).map (fun i=>(i.zero,i.size,i.bytes))=some (some (.agg #[.string ⟨#[]⟩,.slice none 0 0,.string ⟨#[]⟩,.int .i64 0,.int .i64 0]),5,72):=by kernel_rfl
 obtain ⟨i0,hi,hz0,hz1,hz2⟩:=info_parts h
 exact ⟨i0,_,Tryz.underlying42,hi,hz0,hz1,hz2,rfl⟩
end
section
open Go.RowKit Go.Maps
def zWj (w:World) (r:E (List Sg)) (e:Ending) (w':World):Prop :=
 match r with
 | .ok l=>∃ v,e=.returned (.tuple #[v,.int .i64 0,.int .i64 0])∧zNe w' l (fun b=>w.heap.size≤b) v∧Below w.heap.size w w'
 | .error (q,c)=>e=.returned (.tuple #[.slice none 0 0,.int .i64 q,.int .i64 c])∧Below w.heap.size w w'
theorem zEj {tys:List Ty}:∀ {r:List T} {l:List Prm} {q:Nat} {c:Int},zaf tys l r=.error (q,c)→c≠0
 | [],_,_,_,h=>by rw [zaf] at h;cases h
 | n :: r,l,q,c,h=>by
  rw [zaf] at h
  cases hp:zIl tys n l with
  | error e=>rw [hp] at h;cases h;exact zkl hp
  | ok p=>rw [hp] at h;exact zEj h
theorem zFk {tys:List Ty} {n:T} {q:Nat} {c:Int} (h:zuj tys n=.error (q,c)):c≠0:=by
 by_cases h8:8<(zFe n.kids).params.length
 ·rw [zpi h8] at h;cases h;decide
 ·rw [zgm h8] at h
  cases hp:zaf tys [] (zFe n.kids).params with
  | error e=>rw [hp] at h;cases h;exact zEj hp
  | ok l =>
   rw [hp] at h
   simp only at h
   cases hh:zgd tys (zFe n.kids).res with
   | none=>rw [hh] at h;cases h;decide
   | some r=>rw [hh] at h;cases h
theorem zpn {tys:List Ty} {l:List Sg} {n:T} {r:List T} (hk:(n.kind == 6)=false):zTd tys l (n :: r)=zTd tys l r:=by rw [zTd,hk];rfl
theorem zBl {tys:List Ty} {l:List Sg} {n:T} {r:List T} {e:Nat × Int} (hk:(n.kind == 6)=true) (h:zuj tys n=.error e):zTd tys l (n :: r)=.error e:=by rw [zTd,hk,h];rfl
theorem zan {tys:List Ty} {l:List Sg} {n:T} {r:List T} {s:Sg} (hk:(n.kind == 6)=true) (h:zuj tys n=.ok s):zTd tys l (n :: r)=zTd tys (l++[s]) r:=by rw [zTd,hk,h];rfl
theorem zgr {t:T} (h:zau t):(∀ p∈(zFe t.kids).params,(zJa (zJa p 0) 0).text.size≤maxLen)∧(zJa (zFe t.kids).res 0).text.size≤maxLen:=by
 obtain ⟨ps,m,b,_,hp,hm,e⟩:=h.fp
 rw [e]
 exact ⟨fun p h=>by have:=zXp (hp p h);unfold maxLen;omega,by have:=zdj hm.1;show (zJa m 0).text.size≤maxLen;unfold maxLen;omega⟩
theorem zKh {w:World} {A:Option Addr} {cap:Nat} {tys:List Ty} (ht:Tys w A tys) (hlen:tys.length≤cap∧cap≤maxLen) (hns:∀ t∈tys,t.name.size≤maxLen) {t:T} {S:Nat→Prop} {kv:Value} (hk:KAt 25 w t.kids S kv) (hts:t.size≤4096) (hfn:∀ x∈t.kids,zVf x) :
  Calls Tryz.prog 10 #[zna t kv,.slice A tys.length cap] w (zWj w (zTd tys [] t.kids)):=by
 obtain ⟨i0,z0,I⟩:=Tryz.zZu
 have htz:t.size=1+sizes t.kids:=by cases t;rw [size_mk];rfl
 have hkl:t.kids.length≤4096:=by have:=zbf t.kids;omega
 obtain ⟨W0,hW0⟩:∃ W,w.alloc (.cells (zaa t kv).toArray 25)=W:=⟨_,rfl⟩
 have hB0:Below w.heap.size w W0:=hW0▸(Below.refl _ _).alloc (Nat.le_refl _) _
 have HB0:=zh hB0
 have b1:=zh (show Blk W0 w.heap.size (zaa t kv) 25 from hW0▸Blk.new w _ _)
 have HT:=zh ht
 have HFN:=zh hfn
 have HTZ:=zh (show 1+sizes t.kids≤4096 by omega)
 have HK:=zh (show KAt 25 w t.kids (fun b=>b<w.heap.size) kv from hk.keep fun b _ hb=>⟨hb,rfl⟩)
 have HNR:=zh (zak A cap tys W0 (by omega) (ht.below hB0) hns)
 obtain ⟨ka,kc,rfl⟩:=hk.len
 unfold zaa at hW0
 unfold zna
 clear ht hk hfn hns hB0 hts htz
 go_enter Tryz.func10,Tryz.ntmps10
 go_upto_region 1 with fail
 try rw [hW0]
 clear hW0
 go_wp2_with fail
 refine HNR.out.mono ?_
 clear HNR
 rintro e w1 ⟨M,hM,rfl,hm,hb⟩
 obtain ⟨W1,hW1⟩:∃ W,w1.alloc (.cells (zBb A tys.length cap M).toArray 101)=W:=⟨_,rfl⟩
 have hb2:Below w1.heap.size w1 W1:=hW1▸(Below.refl _ _).alloc (Nat.le_refl _) _
 have hb12:=hb.trans (hb2.mono hb.size)
 have HB1:=zh (HB0.out.trans (hb12.mono HB0.out.size))
 have HM1:=zh (hm.below hb2)
 have HML:=zh (show M<w1.heap.size+1 from Nat.lt_succ_of_lt hm.lt)
 have R1:=zh (show Blk W1 w1.heap.size (zBb A tys.length cap M) 101 from hW1▸Blk.new w1 _ _)
 have hn1:=b1.out.stays hb12
 have hw1:w.heap.size<w1.heap.size:=Nat.lt_of_lt_of_le b1.out.lt hb.size
 have n14:W1.cell? ⟨w.heap.size,4,none⟩=some (.slice ka t.kids.length kc):=hn1.cell 4
 clear hb hb2 hb12 hm hn1
 unfold RV
 go_wp2_with ((with_reducible refine zla 101 (.tmp 7) ?_);refine zga rfl 101 (.tmp 7) (.tmp 15) rfl (zBb A tys.length cap M) (old:=[.slice none 0 0,.map none]) rfl rfl Tryz.zEi rfl (by intro x hx;simp only [zBb,List.mem_cons,List.not_mem_nil,or_false] at hx;rcases hx with rfl|rfl<;>rfl) ?_;rw [hW1])
 clear hW1 n14
 go_loopw [8,19] (fun sv i wr=>∃ k:Nat,k≤t.kids.length∧i=.int .i64 k∧∃ l,zNe wr l (fun b=>w1.heap.size<b) sv∧Below (w1.heap.size+1) W1 wr∧l.length≤k∧zTd tys [] t.kids=zTd tys l (t.kids.drop k)) (fun _ i _=>t.kids.length-(intOf i).toNat)
 case atStart=>exact ⟨0,by omega,rfl,[],zNe.nil _ _,Below.refl _ _,by simp,by rw [List.drop_zero]⟩
 case round =>
  obtain ⟨k,hkk,rfl,l,hs,hbw,hll,heq⟩:=hrel
  have HLL:=zh hll
  have HBW:=zh hbw
  have HB:=zh (HB1.out.trans (hbw.mono (by omega)))
  have HSG:=zh hs
  have hwr:w1.heap.size<wr.heap.size:=Nat.lt_of_lt_of_le R1.out.lt hbw.size
  have R2:=zh (show Blk wr w1.heap.size (zBb A tys.length cap M) 101 from (hbw.block _ (by omega)).trans R1.out)
  by_cases hlt:k<t.kids.length
  ·obtain ⟨tk,htk⟩:∃ tk,t.kids[k]?=some tk:=⟨_,List.getElem?_eq_getElem hlt⟩
   obtain ⟨g,cp,hsl,hgl,hcap,hcm,hget⟩:=(HK.out.form).resolve_left fun h=>by rw [h.2] at hlt;simp at hlt
   obtain ⟨rfl,rfl⟩:ka=some ⟨g,0,none⟩∧kc=cp:=by simpa using hsl
   obtain ⟨u,hr,hu⟩:=hget k tk htk
   have HR:=zh (zua hr HB.out hgl)
   have HEQ:=zh (heq.trans (show _=zTd tys l (tk :: t.kids.drop (k+1)) by rw [List.drop_eq_getElem_cons hlt,(List.getElem?_eq_some_iff.1 htk).2]))
   obtain ⟨W2,hW2⟩:∃ W,wr.alloc (.cells (zaa tk u).toArray 25)=W:=⟨_,rfl⟩
   have hb1:Below wr.heap.size wr W2:=hW2▸(Below.refl _ _).alloc (Nat.le_refl _) _
   have HB2:=zh (HB.out.trans (hb1.mono HB.out.size))
   have HBW2:=zh (hbw.trans (hb1.mono (by omega)))
   have HSG2:=zh (hs.below hb1)
   have HN2:=zh (show Blk W2 wr.heap.size (zaa tk u) 25 from hW2▸Blk.new wr _ _)
   have HU:=zh (hu.kat.below HB2.out)
   have hu1:=hu.one'
   have hc0:W2.cell? ⟨wr.heap.size,0,none⟩=some (.int .i64 tk.kind):=HN2.out.cell 0
   have HKL:=zh (show tk.kids.length≤4096 from by have:=zzm (List.mem_of_getElem? htk);have:=HTZ.out;omega)
   have HFK:=zh (HFN.out tk (List.mem_of_getElem? htk))
   have r2:=R2.out.stays hb1
   obtain ⟨sa,sc,rfl⟩:=hs.slice
   clear hget hr hu hs hsl htk heq hb1 hbw hll
   cases h6:tk.kind == 6
   ·have HN:=zh (HEQ.out.trans (zpn h6))
    have h6':(tk.kind != 6)=true:=by simp [bne,h6]
    go_wp2_with (first
     | ((with_reducible refine zqa 25 (.tmp 21) ?_);refine wpList_load_mid rfl 25 (.tmp 21) rfl g (k * 5) rfl (zaa tk u) _ HR.out Tryz.underlying25 rfl Tryz.zea ?_)
     | ((with_reducible refine zla 25 (.tmp 10) ?_);refine zga rfl 25 (.tmp 10) (.tmp 22) rfl (zaa tk u) (old:=zba) rfl rfl Tryz.zea rfl (zca _ _ hu1) ?_;rw [hW2]))
    go_roundw
    case rel=>exact ⟨k+1,hlt,by go_num,l,HSG2.out,HBW2.out,by have:=HLL.out;omega,HN.out⟩
    case measure=>simp [intOf];omega
   ·have h6':(tk.kind != 6)=false:=by simp [bne,h6]
    have hok:=HFK.out (beq_iff_eq.1 h6)
    have HSI:=zh (zpr (HT.out.below HB2.out) hlen (HM1.out.same (HBW2.out.block M HML.out)) HU.out HKL.out (zgr hok))
    have n2:=HN2.out
    unfold RV zna at HSI
    clear hok
    go_wp2_with (first
     | ((with_reducible refine zqa 25 (.tmp 21) ?_);refine wpList_load_mid rfl 25 (.tmp 21) rfl g (k * 5) rfl (zaa tk u) _ HR.out Tryz.underlying25 rfl Tryz.zea ?_)
     | ((with_reducible refine zla 25 (.tmp 10) ?_);refine zga rfl 25 (.tmp 10) (.tmp 22) rfl (zaa tk u) (old:=zba) rfl rfl Tryz.zea rfl (zca _ _ hu1) ?_;rw [hW2])
     | ((with_reducible refine zqa 101 (.tmp 7) ?_);refine zia rfl 101 (.tmp 7) rfl w1.heap.size (zBb A tys.length cap M) rfl r2 Tryz.underlying101 rfl Tryz.zEi ?_)
     | ((with_reducible refine zqa 25 (.tmp 10) ?_);refine zia rfl 25 (.tmp 10) rfl wr.heap.size (zaa tk u) rfl n2 Tryz.underlying25 rfl Tryz.zea ?_))
    refine HSI.out.mono ?_
    clear HSI n2 r2 hW2 hc0
    intro e w5 hp
    cases ho:zuj tys tk with
    | error pc =>
     obtain ⟨q,c⟩:=pc
     rw [ho] at hp
     obtain ⟨rfl,hb⟩:=hp
     have HRes:=zh (show zTd tys [] t.kids=.error (q,c) from by rw [HEQ.out,zBl h6 ho])
     have hc0:=zFk ho
     have hc1:(c != 0)=true:=by simpa using hc0
     obtain ⟨W6,hW6⟩:∃ W,w5.alloc (.cells (zka sg0 (.slice none 0 0)).toArray 54)=W:=⟨_,rfl⟩
     have HB6:=zh (show Below w.heap.size w W6 from hW6▸(HB2.out.trans (hb.mono HB2.out.size)).alloc (Nat.le_trans HB2.out.size hb.size) _)
     have hone:=zWe sg0 (pv:=.slice none 0 0) rfl
     clear hb ho hc0
     unfold SgV
     go_wp2_with ((with_reducible refine zla 54 (.tmp 11) ?_);refine zga rfl 54 (.tmp 11) (.tmp 30) rfl (zka sg0 (.slice none 0 0)) (old:=zka sg0 (.slice none 0 0)) rfl rfl Tryz.zre rfl hone ?_;rw [hW6])
     refine bodyPost_ret (results_tmp3 Tryz.results10 _ _ _) rfl ?_
     rw [HRes.out]
     exact ⟨rfl,HB6.out⟩
    | ok s =>
     rw [ho] at hp
     obtain ⟨pv,rfl,hpv,hb⟩:=hp
     have HN:=zh (HEQ.out.trans (zan h6 ho))
     obtain ⟨W6,hW6⟩:∃ W,w5.alloc (.cells (zka s pv).toArray 54)=W:=⟨_,rfl⟩
     have hb2:Below w5.heap.size w5 W6:=hW6▸(Below.refl _ _).alloc (Nat.le_refl _) _
     have hb12:=hb.trans (hb2.mono hb.size)
     have hb7:=hb12.trans (((Below.refl W6.heap.size W6).alloc (Nat.le_refl _) (.cells (zka s pv).toArray 54)).mono hb12.size)
     have HB7:=zh hb7
     have HSG7:=zh (HSG2.out.below hb7)
     have HBW7:=zh (HBW2.out.trans (hb7.mono (by have:=HN2.out.lt;omega)))
     have HP7:=zh (((hpv.below hb2).alloc (.cells (zka s pv).toArray 54)))
     have hwW:wr.heap.size<W2.heap.size:=HN2.out.lt
     have HPC:=zh (show zQd _ s.params (fun b=>w1.heap.size<b∧(Value.slice sa l.length sc).ownBlock≠some b) pv from HP7.out.mono fun b hb _=>by
      have hb':W2.heap.size≤b:=hb
      exact ⟨by omega,fun e=>by have:=(HSG2.out.lt e).2;omega⟩)
     have HX6:=zh (show Blk W6 w5.heap.size (zka s pv) 54 from hW6▸Blk.new w5 _ _)
     have HL7:=zh (Blk.new W6 (zka s pv) 54)
     have x6:=HX6.out
     have hone:=zWe s hpv.one
     have hn5:(zka s pv).length=5:=rfl
     have hW2l:=HN2.out.lt
     clear hb hb2 hb12 hb7 hpv ho
     unfold SgV
     go_wp2_with (first
      | ((with_reducible refine zla 54 (.tmp 11) ?_);refine zga rfl 54 (.tmp 11) (.tmp 30) rfl (zka s pv) (old:=zka sg0 (.slice none 0 0)) rfl rfl Tryz.zre rfl hone ?_;rw [hW6])
      | ((with_reducible refine zqa 54 (.tmp 11) ?_);refine zia rfl 54 (.tmp 11) rfl w5.heap.size (zka s pv) rfl x6 Tryz.underlying54 rfl Tryz.zre ?_)
      | (at_builtin;refine zAh rfl (.tmp 37) (.tmp 39) rfl I rfl HSG7.out ?c3 rfl HL7.out HPC.out ?c4 ?_))
     case c3=>exact Nat.lt_of_lt_of_le R1.out.lt HBW7.out.size
     case c4=>have:=HLL.out;omega
     intro v' w8 hv' hg'
     have HB8:=zh (HBW7.out.grown hg' (by have:=HBW7.out.size;have:=R1.out.lt;omega) (fun k hk=>by have:=(HSG2.out.lt hk).1;omega))
     obtain ⟨va2,vc2,rfl⟩:=hv'.slice
     have HV:=zh hv'
     clear hv' hg' x6 hW6
     go_wp2
     go_roundw
     case rel=>exact ⟨k+1,hlt,by go_num,_,HV.out,HB8.out,by have:=HLL.out;simp;omega,HN.out⟩
     case measure=>simp [intOf];omega
  ·obtain rfl:k=t.kids.length:=by omega
   have HRes:=zh (show zTd tys [] t.kids=.ok l by rw [heq,List.drop_length];rfl)
   clear heq hs hbw
   go_wp2_with fail
   refine bodyPost_ret (results_tmp3 Tryz.results10 _ _ _) rfl ?_
   rw [HRes.out]
   exact ⟨_,rfl,HSG.out.keep fun b hb hl=>⟨by omega,rfl⟩,HB.out⟩
end
end Go.Proofs.YtpjnpffcnmgdcaaGreatDoor
