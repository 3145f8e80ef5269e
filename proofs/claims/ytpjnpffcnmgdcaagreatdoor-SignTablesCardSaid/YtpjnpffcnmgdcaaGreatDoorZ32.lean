/- The document's types and parameters in memory; the contracts of lychgateref11.Find and lychgateref12.Mode. -/
import Derived.Test.YtpjnpffcnmgdcaaGreatDoorZ31
import Derived.Test.YtpjnpffcnmgdcaaGreatDoorZ23
namespace Go.Proofs.YtpjnpffcnmgdcaaGreatDoor
set_option maxRecDepth 100000
set_option maxHeartbeats 4000000
open Go.RowKit Go.Maps
def zph (w:World) (A:Option Addr) (ts:List Ty):Prop :=
 0<ts.length→∃ g,A=some ⟨g,0,none⟩∧g<w.heap.size∧∀ k t,ts[k]?=some t→∃ o f l,w.rangeAt g (k * 5) [.string t.name,.int .i64 t.sort,o,f,l]
theorem zph.below {w w':World} {A:Option Addr} {ts:List Ty} (h:zph w A ts) (hb:Below w.heap.size w w'):zph w' A ts:=fun hn=>by
 obtain ⟨g,e,hg,hf⟩:=h hn
 refine ⟨g,e,Nat.lt_of_lt_of_le hg hb.size,fun k t hk=>?_⟩
 obtain ⟨o,f,l,hr⟩:=hf k t hk
 exact ⟨o,f,l,zua hr hb hg⟩
abbrev zje:=RAt 57 3 zja
theorem Tryz.zUa:(Tryz.prog.info? 57).map (·.size)=some 3:=by kernel_rfl
theorem Tryz.zyc:(Tryz.prog.info? 59).map (·.size)=some 5:=by kernel_rfl
theorem Tryz.zGr:∃ i z,zqe Tryz.prog 55 57 3 32 i z:=by
 have h:(Tryz.prog.info? 57).map (fun i=>(i.zero,i.size,i.bytes))=some (some (.agg #[.string ⟨#[]⟩,.int .i64 0,.int .i64 0]),3,32):=by kernel_rfl
 obtain ⟨i0,hi,hz0,hz1,hz2⟩:=info_parts h
 exact ⟨i0,_,Tryz.underlying55,hi,hz0,hz1,hz2,rfl⟩
theorem zhh (s:ByteArray) (A:Option Addr) (cap:Nat) (ts:List Ty) (w:World) (hts:zph w A ts) (hl:ts.length≤9223372036854775807) :
  Calls Tryz.prog 45 #[.slice A ts.length cap,.string s] w fun e w'=>e=.returned (.int .i64 (oi (zze ts s)))∧w'=w:=by
 have HF:=zh hts
 clear hts
 go_enter Tryz.func45,Tryz.ntmps45
 go_wp2
 go_loopw [5] (fun i wr=>∃ k:Nat,k≤ts.length∧i=.int .i64 k∧wr=w∧zze (ts.take k) s=none) (fun i _=>ts.length-(intOf i).toNat)
 case atStart=>exact ⟨0,by omega,rfl,rfl,by simp [zNg]⟩
 case round =>
  obtain ⟨k,hk,rfl,rfl,hno⟩:=hrel
  have HN:=zh hno
  clear hno
  by_cases hlt2:k<ts.length
  ·obtain ⟨b,rfl,hbl,hc⟩:=HF.out (by omega)
   obtain ⟨t,ht⟩:∃ t,ts[k]?=some t:=⟨_,List.getElem?_eq_getElem hlt2⟩
   obtain ⟨o,f,l,hr⟩:=hc k t ht
   have e0:wr.cell? ⟨b,k * 5,none⟩=some (.string t.name):=hr 0 _ rfl
   have HT:=zh ht
   have hk1:(k:Int)<(ts.length:Int):=by omega
   clear hc hr ht
   cases ho:t.name.toList == s.toList
   ·have HX:=zh (zDm (nm:=Ty.name) HT.out HN.out ho)
    go_wp2
    go_roundw
    case rel=>exact ⟨k+1,by omega,by go_num,by first|rfl|trivial,HX.out⟩
    case measure=>simp [intOf];omega
   ·have HX:=zh (show zze ts s=some k from (zsg (nm:=Ty.name) HT.out HN.out).2 (by simpa using ho))
    go_wp2
    go_ret
    exact ⟨zou (by rw [HX.out];rfl),rfl⟩
  ·have HX:=zh (show zze ts s=none from by have:=HN.out;rwa [List.take_of_length_le (by omega)] at this)
   go_wp2
   go_ret
   exact ⟨zou (by rw [HX.out];rfl),rfl⟩
def zyp (w:World) (r:Option Prm) (e:Ending) (w':World):Prop:=e=.returned (.tuple #[zzh (r.getD zyb),.bool r.isSome])∧Below w.heap.size w w'
theorem zjl {w:World} {A:Option Addr} {cap:Nat} {tys:List Ty} (ht:zph w A tys) (hl:tys.length≤9223372036854775807) {t:T} {S:Nat→Prop} {kv:Value} (hk:KAt 36 w t.kids S kv) (hm:zkh t) :
  Calls Tryz.prog 52 #[zna t kv,.slice A tys.length cap] w (zyp w (zgd tys t)):=by
 obtain ⟨W0,hW0⟩:∃ W,((w.alloc (.cells (zaa t kv).toArray 36)).alloc (.cells (zja zyb).toArray 57)).alloc (.cells (zja zyb).toArray 57)=W:=⟨_,rfl⟩
 have HB0:=zh (show Below w.heap.size w W0 from hW0▸((((Below.refl _ _).alloc (Nat.le_refl _) _).alloc (by simp) _).alloc (by simp;omega) _))
 have b1:=zh (show Blk W0 w.heap.size (zaa t kv) 36 from hW0▸(((Blk.new w _ _).alloc _).alloc _))
 have b2:=zh (show Blk W0 (w.heap.size+1) (zja zyb) 57 from hW0▸((Blk.zTe w _ _ _).alloc _))
 have b3:=zh (show Blk W0 (w.heap.size+1+1) (zja zyb) 57 from hW0▸(by simpa using Blk.new ((w.alloc (.cells (zaa t kv).toArray 36)).alloc (.cells (zja zyb).toArray 57)) (zja zyb) 57))
 obtain ⟨W1,hW1⟩:∃ W,W0.setCell ⟨w.heap.size+1+1,1,none⟩ (.int .i64 (zjb t.text))=W:=⟨_,rfl⟩
 have hrow:W1=W0.setRow (w.heap.size+1+1) (zja ⟨⟨#[]⟩,zjb t.text,0⟩).toArray:=hW1▸setCell_eq_setRow W0 (w.heap.size+1+1) 1 _ _ (0,0) _ b3.out
 have B2:=zh (show Blk W1 (w.heap.size+1) (zja zyb) 57 from hrow▸b2.out.zta _ _ (by omega))
 have B3:=zh (show Blk W1 (w.heap.size+1+1) (zja ⟨⟨#[]⟩,zjb t.text,0⟩) 57 from hrow▸b3.out.zra _)
 have B1:=zh (show Blk W1 w.heap.size (zaa t kv) 36 from hrow▸b1.out.zta _ _ (by omega))
 have HB1:=zh (show Below w.heap.size w W1 from hrow▸Below.row HB0.out (by omega) _)
 have d1:W0.cell? ⟨w.heap.size,1,none⟩=some (.string t.text):=b1.out.cell 1
 have x1:W0.cell? ⟨w.heap.size+1+1,1,none⟩=some (.int .i64 0):=b3.out.cell 1
 have f1:W0.frozen? ⟨w.heap.size+1+1,1,none⟩=false:=(b3.out.there 1 1 (by simp [zja]) 0 (by omega)).2
 have y1:W1.cell? ⟨w.heap.size+1+1,1,none⟩=some (.int .i64 (zjb t.text)):=B3.out.cell 1
 have HK:=zh hk
 have HT:=zh ht
 have HMK:=zh hm.2
 have HI:=zh (zkg (tys:=tys) (t:=t))
 have HY:=zh (zJh (tys:=tys) (t:=t))
 have HMN:=zh (show ∀ z,zjb t.text=z→zjb t.text=z from fun _ h=>h)
 have hW0':((w.alloc (.cells #[.int .i64 t.kind,.string t.text,.int .i64 t.num,.int .i64 t.place,kv] 36)).alloc (.cells #[.string ⟨#[]⟩,.int .i64 0,.int .i64 0] 57)).alloc (.cells #[.string ⟨#[]⟩,.int .i64 0,.int .i64 0] 57)=W0:=hW0
 have HW0:=zh hW0'
 clear hW0 hW0'
 unfold zna
 clear ht hk hm hrow
 have low:∀ z:Int,zjb t.text=z→zVb z=false→Hid (zgd tys t=some ⟨⟨#[]⟩,z,0⟩):=fun z h hz=>zh (by rw [HI.out (by rw [h];exact hz),h])
 have high:∀ z:Int,zjb t.text=z→zVb z=true→Hid (∃ n:T,t.kids=[n]∧zgd tys t=(zze tys n.text).map (fun k:Nat=>(⟨⟨#[]⟩,z,(k:Int)⟩:Prm))):=fun z h hz=>zh (by
  rcases HMK.out with ⟨_,hb⟩|⟨n,e,_,hb⟩
  ·rw [h,hz] at hb;cases hb
  ·refine ⟨n,e,?_⟩
   rw [HY.out hb,h]
   have e0:zJa t 0=n:=by unfold zJa;rw [e];rfl
   rw [e0])
 cases h1:t.text.toList == [105,110,116]
 ·cases h2:t.text.toList == [111,119,110]
  ·cases h3:t.text.toList == [38]
   ·cases h4:t.text.toList == [38,109,117,116]
    ·have hz:zjb t.text=0:=by unfold zjb;rw [h1,h2,h3,h4];rfl
     have HR:=low 0 hz rfl
     have b3':=b3.out
     have b2':=b2.out
     clear low high hW1 y1
     go_enter Tryz.func52,Tryz.ntmps52
     go_upto_region 2 with fail
     rw [HW0.out]
     clear HW0
     go_wp2_with (first
      | ((with_reducible refine zqa 57 (.tmp 6) ?_);refine zia rfl 57 (.tmp 6) rfl (w.heap.size+1+1) (zja zyb) rfl b3' Tryz.underlying57 rfl Tryz.zUa ?_)
      | ((with_reducible refine zla 57 (.tmp 4) ?_);refine zda rfl 57 (.tmp 4) (.tmp 37) rfl (w.heap.size+1) (zja zyb) rfl rfl b2' Tryz.zUa rfl (zsb _) ?_))
     refine zGf (cs:=zja zyb) Tryz.results52 rfl rfl (b2'.zra (zja zyb)) Tryz.underlying57 rfl Tryz.zUa rfl ?_
     rw [HR.out]
     exact ⟨rfl,Below.row HB0.out (by omega) _⟩
    ·have hz:zjb t.text=4:=by unfold zjb;rw [h1,h2,h3,h4];rfl
     obtain ⟨n,hn,hh⟩:=(high 4 hz rfl).out
     have HR:=zh hh
     clear low high hh
     rw [hz] at hW1 y1 B3
     go_enter Tryz.func52,Tryz.ntmps52
     go_upto_region 2 with fail
     rw [HW0.out]
     clear HW0
     go_upto_region 11 with fail
     try rw [hW1]
     clear hW1 x1 f1 d1
     obtain ⟨g,cp,rfl,hgl,hcap,hcm,hget⟩:=(HK.out.form).resolve_left fun h=>by rw [hn] at h;simp at h
     obtain ⟨u,hr,_⟩:=hget 0 n (by rw [hn];rfl)
     have g1:W1.cell? ⟨g,1,none⟩=some (.string n.text):=zua hr HB1.out hgl 1 _ rfl
     have n4:W1.cell? ⟨w.heap.size,4,none⟩=some (.slice (some ⟨g,0,none⟩) 1 cp):=by have:=B1.out.cell 4;rw [hn] at this;exact this
     rw [hn] at hcap
     have HF:=zh (zhh n.text A cap tys W1 (HT.out.below HB1.out) hl)
     have z2:W1.cell? ⟨w.heap.size+1+1,2,none⟩=some (.int .i64 0):=B3.out.cell 2
     have f2:W1.frozen? ⟨w.heap.size+1+1,2,none⟩=false:=(B3.out.there 2 1 (by simp [zja]) 0 (by omega)).2
     unfold maxLen at hcm
     clear hget hr
     go_wp2_with fail
     refine HF.out.mono ?_
     clear HF
     rintro e w2 ⟨rfl,rfl⟩
     cases hf:zze tys n.text with
     | none =>
      have HR2:=zh (HR.out.trans (by rw [hf]))
      obtain ⟨W2,hW2⟩:∃ W,w2.setCell ⟨w.heap.size+1+1,2,none⟩ (.int .i64 (-1))=W:=⟨_,rfl⟩
      have hrow:W2=w2.setRow (w.heap.size+1+1) (zja ⟨⟨#[]⟩,4,-1⟩).toArray:=hW2▸setCell_eq_setRow w2 (w.heap.size+1+1) 2 _ _ (0,0) _ B3.out
      have b2':Blk W2 (w.heap.size+1) (zja zyb) 57:=hrow▸B2.out.zta _ _ (by omega)
      have z3:W2.cell? ⟨w.heap.size+1+1,2,none⟩=some (.int .i64 (-1)):=(hrow▸B3.out.zra (zja ⟨⟨#[]⟩,4,-1⟩):Blk W2 (w.heap.size+1+1) (zja ⟨⟨#[]⟩,4,-1⟩) 57).cell 2
      have HB2:=zh (show Below w.heap.size w W2 from hrow▸Below.row HB1.out (by omega) _)
      clear hrow
      simp only [oi]
      go_wp2_with ((with_reducible refine zla 57 (.tmp 4) ?_);refine zda rfl 57 (.tmp 4) (.tmp 36) rfl (w.heap.size+1) (zja zyb) rfl rfl b2' Tryz.zUa rfl (zsb _) ?_)
      refine zGf (cs:=zja zyb) Tryz.results52 rfl rfl (b2'.zra (zja zyb)) Tryz.underlying57 rfl Tryz.zUa rfl ?_
      rw [HR2.out]
      exact ⟨rfl,Below.row HB2.out (by omega) _⟩
     | some k =>
      have HR2:=zh (HR.out.trans (by rw [hf]))
      obtain ⟨W2,hW2⟩:∃ W,w2.setCell ⟨w.heap.size+1+1,2,none⟩ (.int .i64 k)=W:=⟨_,rfl⟩
      have hrow:W2=w2.setRow (w.heap.size+1+1) (zja ⟨⟨#[]⟩,4,k⟩).toArray:=hW2▸setCell_eq_setRow w2 (w.heap.size+1+1) 2 _ _ (0,0) _ B3.out
      have b2':Blk W2 (w.heap.size+1) (zja zyb) 57:=hrow▸B2.out.zta _ _ (by omega)
      have b3':Blk W2 (w.heap.size+1+1) (zja ⟨⟨#[]⟩,4,k⟩) 57:=hrow▸B3.out.zra _
      have z3:W2.cell? ⟨w.heap.size+1+1,2,none⟩=some (.int .i64 k):=b3'.cell 2
      have HB2:=zh (show Below w.heap.size w W2 from hrow▸Below.row HB1.out (by omega) _)
      clear hrow
      simp only [oi]
      go_wp2_with (first
       | ((with_reducible refine zqa 57 (.tmp 6) ?_);refine zia rfl 57 (.tmp 6) rfl (w.heap.size+1+1) (zja ⟨⟨#[]⟩,4,k⟩) rfl b3' Tryz.underlying57 rfl Tryz.zUa ?_)
       | ((with_reducible refine zla 57 (.tmp 4) ?_);refine zda rfl 57 (.tmp 4) (.tmp 37) rfl (w.heap.size+1) (zja ⟨⟨#[]⟩,4,k⟩) rfl rfl b2' Tryz.zUa rfl (zsb _) ?_))
      refine zGf (cs:=zja ⟨⟨#[]⟩,4,k⟩) Tryz.results52 rfl rfl (b2'.zra (zja ⟨⟨#[]⟩,4,k⟩)) Tryz.underlying57 rfl Tryz.zUa rfl ?_
      rw [HR2.out]
      exact ⟨rfl,Below.row HB2.out (by omega) _⟩
   ·have hz:zjb t.text=3:=by unfold zjb;rw [h1,h2,h3];rfl
    obtain ⟨n,hn,hh⟩:=(high 3 hz rfl).out
    have HR:=zh hh
    clear low high hh
    rw [hz] at hW1 y1 B3
    go_enter Tryz.func52,Tryz.ntmps52
    go_upto_region 2 with fail
    rw [HW0.out]
    clear HW0
    go_upto_region 11 with fail
    try rw [hW1]
    clear hW1 x1 f1 d1
    obtain ⟨g,cp,rfl,hgl,hcap,hcm,hget⟩:=(HK.out.form).resolve_left fun h=>by rw [hn] at h;simp at h
    obtain ⟨u,hr,_⟩:=hget 0 n (by rw [hn];rfl)
    have g1:W1.cell? ⟨g,1,none⟩=some (.string n.text):=zua hr HB1.out hgl 1 _ rfl
    have n4:W1.cell? ⟨w.heap.size,4,none⟩=some (.slice (some ⟨g,0,none⟩) 1 cp):=by have:=B1.out.cell 4;rw [hn] at this;exact this
    rw [hn] at hcap
    have HF:=zh (zhh n.text A cap tys W1 (HT.out.below HB1.out) hl)
    have z2:W1.cell? ⟨w.heap.size+1+1,2,none⟩=some (.int .i64 0):=B3.out.cell 2
    have f2:W1.frozen? ⟨w.heap.size+1+1,2,none⟩=false:=(B3.out.there 2 1 (by simp [zja]) 0 (by omega)).2
    unfold maxLen at hcm
    clear hget hr
    go_wp2_with fail
    refine HF.out.mono ?_
    clear HF
    rintro e w2 ⟨rfl,rfl⟩
    cases hf:zze tys n.text with
    | none =>
     have HR2:=zh (HR.out.trans (by rw [hf]))
     obtain ⟨W2,hW2⟩:∃ W,w2.setCell ⟨w.heap.size+1+1,2,none⟩ (.int .i64 (-1))=W:=⟨_,rfl⟩
     have hrow:W2=w2.setRow (w.heap.size+1+1) (zja ⟨⟨#[]⟩,3,-1⟩).toArray:=hW2▸setCell_eq_setRow w2 (w.heap.size+1+1) 2 _ _ (0,0) _ B3.out
     have b2':Blk W2 (w.heap.size+1) (zja zyb) 57:=hrow▸B2.out.zta _ _ (by omega)
     have z3:W2.cell? ⟨w.heap.size+1+1,2,none⟩=some (.int .i64 (-1)):=(hrow▸B3.out.zra (zja ⟨⟨#[]⟩,3,-1⟩):Blk W2 (w.heap.size+1+1) (zja ⟨⟨#[]⟩,3,-1⟩) 57).cell 2
     have HB2:=zh (show Below w.heap.size w W2 from hrow▸Below.row HB1.out (by omega) _)
     clear hrow
     simp only [oi]
     go_wp2_with ((with_reducible refine zla 57 (.tmp 4) ?_);refine zda rfl 57 (.tmp 4) (.tmp 36) rfl (w.heap.size+1) (zja zyb) rfl rfl b2' Tryz.zUa rfl (zsb _) ?_)
     refine zGf (cs:=zja zyb) Tryz.results52 rfl rfl (b2'.zra (zja zyb)) Tryz.underlying57 rfl Tryz.zUa rfl ?_
     rw [HR2.out]
     exact ⟨rfl,Below.row HB2.out (by omega) _⟩
    | some k =>
     have HR2:=zh (HR.out.trans (by rw [hf]))
     obtain ⟨W2,hW2⟩:∃ W,w2.setCell ⟨w.heap.size+1+1,2,none⟩ (.int .i64 k)=W:=⟨_,rfl⟩
     have hrow:W2=w2.setRow (w.heap.size+1+1) (zja ⟨⟨#[]⟩,3,k⟩).toArray:=hW2▸setCell_eq_setRow w2 (w.heap.size+1+1) 2 _ _ (0,0) _ B3.out
     have b2':Blk W2 (w.heap.size+1) (zja zyb) 57:=hrow▸B2.out.zta _ _ (by omega)
     have b3':Blk W2 (w.heap.size+1+1) (zja ⟨⟨#[]⟩,3,k⟩) 57:=hrow▸B3.out.zra _
     have z3:W2.cell? ⟨w.heap.size+1+1,2,none⟩=some (.int .i64 k):=b3'.cell 2
     have HB2:=zh (show Below w.heap.size w W2 from hrow▸Below.row HB1.out (by omega) _)
     clear hrow
     simp only [oi]
     go_wp2_with (first
      | ((with_reducible refine zqa 57 (.tmp 6) ?_);refine zia rfl 57 (.tmp 6) rfl (w.heap.size+1+1) (zja ⟨⟨#[]⟩,3,k⟩) rfl b3' Tryz.underlying57 rfl Tryz.zUa ?_)
      | ((with_reducible refine zla 57 (.tmp 4) ?_);refine zda rfl 57 (.tmp 4) (.tmp 37) rfl (w.heap.size+1) (zja ⟨⟨#[]⟩,3,k⟩) rfl rfl b2' Tryz.zUa rfl (zsb _) ?_))
     refine zGf (cs:=zja ⟨⟨#[]⟩,3,k⟩) Tryz.results52 rfl rfl (b2'.zra (zja ⟨⟨#[]⟩,3,k⟩)) Tryz.underlying57 rfl Tryz.zUa rfl ?_
     rw [HR2.out]
     exact ⟨rfl,Below.row HB2.out (by omega) _⟩
  ·have hz:zjb t.text=2:=by unfold zjb;rw [h1,h2];rfl
   obtain ⟨n,hn,hh⟩:=(high 2 hz rfl).out
   have HR:=zh hh
   clear low high hh
   rw [hz] at hW1 y1 B3
   go_enter Tryz.func52,Tryz.ntmps52
   go_upto_region 2 with fail
   rw [HW0.out]
   clear HW0
   go_upto_region 11 with fail
   try rw [hW1]
   clear hW1 x1 f1 d1
   obtain ⟨g,cp,rfl,hgl,hcap,hcm,hget⟩:=(HK.out.form).resolve_left fun h=>by rw [hn] at h;simp at h
   obtain ⟨u,hr,_⟩:=hget 0 n (by rw [hn];rfl)
   have g1:W1.cell? ⟨g,1,none⟩=some (.string n.text):=zua hr HB1.out hgl 1 _ rfl
   have n4:W1.cell? ⟨w.heap.size,4,none⟩=some (.slice (some ⟨g,0,none⟩) 1 cp):=by have:=B1.out.cell 4;rw [hn] at this;exact this
   rw [hn] at hcap
   have HF:=zh (zhh n.text A cap tys W1 (HT.out.below HB1.out) hl)
   have z2:W1.cell? ⟨w.heap.size+1+1,2,none⟩=some (.int .i64 0):=B3.out.cell 2
   have f2:W1.frozen? ⟨w.heap.size+1+1,2,none⟩=false:=(B3.out.there 2 1 (by simp [zja]) 0 (by omega)).2
   unfold maxLen at hcm
   clear hget hr
   go_wp2_with fail
   refine HF.out.mono ?_
   clear HF
   rintro e w2 ⟨rfl,rfl⟩
   cases hf:zze tys n.text with
   | none =>
    have HR2:=zh (HR.out.trans (by rw [hf]))
    obtain ⟨W2,hW2⟩:∃ W,w2.setCell ⟨w.heap.size+1+1,2,none⟩ (.int .i64 (-1))=W:=⟨_,rfl⟩
    have hrow:W2=w2.setRow (w.heap.size+1+1) (zja ⟨⟨#[]⟩,2,-1⟩).toArray:=hW2▸setCell_eq_setRow w2 (w.heap.size+1+1) 2 _ _ (0,0) _ B3.out
    have b2':Blk W2 (w.heap.size+1) (zja zyb) 57:=hrow▸B2.out.zta _ _ (by omega)
    have z3:W2.cell? ⟨w.heap.size+1+1,2,none⟩=some (.int .i64 (-1)):=(hrow▸B3.out.zra (zja ⟨⟨#[]⟩,2,-1⟩):Blk W2 (w.heap.size+1+1) (zja ⟨⟨#[]⟩,2,-1⟩) 57).cell 2
    have HB2:=zh (show Below w.heap.size w W2 from hrow▸Below.row HB1.out (by omega) _)
    clear hrow
    simp only [oi]
    go_wp2_with ((with_reducible refine zla 57 (.tmp 4) ?_);refine zda rfl 57 (.tmp 4) (.tmp 36) rfl (w.heap.size+1) (zja zyb) rfl rfl b2' Tryz.zUa rfl (zsb _) ?_)
    refine zGf (cs:=zja zyb) Tryz.results52 rfl rfl (b2'.zra (zja zyb)) Tryz.underlying57 rfl Tryz.zUa rfl ?_
    rw [HR2.out]
    exact ⟨rfl,Below.row HB2.out (by omega) _⟩
   | some k =>
    have HR2:=zh (HR.out.trans (by rw [hf]))
    obtain ⟨W2,hW2⟩:∃ W,w2.setCell ⟨w.heap.size+1+1,2,none⟩ (.int .i64 k)=W:=⟨_,rfl⟩
    have hrow:W2=w2.setRow (w.heap.size+1+1) (zja ⟨⟨#[]⟩,2,k⟩).toArray:=hW2▸setCell_eq_setRow w2 (w.heap.size+1+1) 2 _ _ (0,0) _ B3.out
    have b2':Blk W2 (w.heap.size+1) (zja zyb) 57:=hrow▸B2.out.zta _ _ (by omega)
    have b3':Blk W2 (w.heap.size+1+1) (zja ⟨⟨#[]⟩,2,k⟩) 57:=hrow▸B3.out.zra _
    have z3:W2.cell? ⟨w.heap.size+1+1,2,none⟩=some (.int .i64 k):=b3'.cell 2
    have HB2:=zh (show Below w.heap.size w W2 from hrow▸Below.row HB1.out (by omega) _)
    clear hrow
    simp only [oi]
    go_wp2_with (first
     | ((with_reducible refine zqa 57 (.tmp 6) ?_);refine zia rfl 57 (.tmp 6) rfl (w.heap.size+1+1) (zja ⟨⟨#[]⟩,2,k⟩) rfl b3' Tryz.underlying57 rfl Tryz.zUa ?_)
     | ((with_reducible refine zla 57 (.tmp 4) ?_);refine zda rfl 57 (.tmp 4) (.tmp 37) rfl (w.heap.size+1) (zja ⟨⟨#[]⟩,2,k⟩) rfl rfl b2' Tryz.zUa rfl (zsb _) ?_))
    refine zGf (cs:=zja ⟨⟨#[]⟩,2,k⟩) Tryz.results52 rfl rfl (b2'.zra (zja ⟨⟨#[]⟩,2,k⟩)) Tryz.underlying57 rfl Tryz.zUa rfl ?_
    rw [HR2.out]
    exact ⟨rfl,Below.row HB2.out (by omega) _⟩
 ·have hz:zjb t.text=1:=by unfold zjb;rw [h1];rfl
  have HR:=low 1 hz rfl
  clear low high
  rw [hz] at hW1 y1 B3
  go_enter Tryz.func52,Tryz.ntmps52
  go_upto_region 2 with fail
  rw [HW0.out]
  clear HW0
  go_upto_region 11 with fail
  try rw [hW1]
  clear hW1 x1 f1 d1
  have b3':=B3.out
  have b2':=B2.out
  go_wp2_with (first
   | ((with_reducible refine zqa 57 (.tmp 6) ?_);refine zia rfl 57 (.tmp 6) rfl (w.heap.size+1+1) (zja ⟨⟨#[]⟩,1,0⟩) rfl b3' Tryz.underlying57 rfl Tryz.zUa ?_)
   | ((with_reducible refine zla 57 (.tmp 4) ?_);refine zda rfl 57 (.tmp 4) (.tmp 37) rfl (w.heap.size+1) (zja ⟨⟨#[]⟩,1,0⟩) rfl rfl b2' Tryz.zUa rfl (zsb _) ?_))
  refine zGf (cs:=zja ⟨⟨#[]⟩,1,0⟩) Tryz.results52 rfl rfl (b2'.zra (zja ⟨⟨#[]⟩,1,0⟩)) Tryz.underlying57 rfl Tryz.zUa rfl ?_
  rw [HR.out]
  exact ⟨rfl,Below.row HB1.out (by omega) _⟩
end Go.Proofs.YtpjnpffcnmgdcaaGreatDoor
namespace Go.Proofs.YtpjnpffcnmgdcaaGreatDoor
open Go.RowKit Go.Maps
def zvc (w:World):List Sg→(Nat→Prop)→List Value→Prop
 | [],_,us=>us=[]
 | c :: cs,S,us=>∃ u us',us=u :: us'∧zje w c.params S u∧zvc w cs S us'
def zRc (w:World) (cs:List Sg) (S:Nat→Prop) (v:Value):Prop :=
 ∃ us,w.ownsRow 0 59 5 v cs.length (zEh cs us)∧(∀ g,v.ownBlock=some g→S g)∧zvc w cs (fun b=>S b∧v.ownBlock≠some b) us
theorem zvc.keep {w w':World}:∀ (cs:List Sg) {S S':Nat→Prop} {us:List Value},zvc w cs S us→(∀ b,S b→b<w.heap.size→S' b∧w'.heap[b]?=w.heap[b]?)→zvc w' cs S' us
 | [],_,_,_,h,_=>h
 | c :: cs,S,S',us,h,hk=>by
  obtain ⟨u,us',e,ha,hs⟩:=h
  exact ⟨u,us',e,ha.keep hk,zvc.keep cs hs hk⟩
theorem zRc.keep {w w':World} {cs:List Sg} {S S':Nat→Prop} {v:Value} (h:zRc w cs S v) (hk:∀ b,S b→b<w.heap.size→S' b∧w'.heap[b]?=w.heap[b]?):zRc w' cs S' v:=by
 obtain ⟨us,ho,hS,ha⟩:=h
 exact ⟨us,zed ho fun g hg=>(hk g (hS g hg) (ho.lt g hg).2).2,fun g hg=>(hk g (hS g hg) (ho.lt g hg).2).1,zvc.keep cs ha fun b hb hl=>⟨⟨(hk b hb.1 hl).1,hb.2⟩,(hk b hb.1 hl).2⟩⟩
theorem zRc.below {w w':World} {cs:List Sg} {S:Nat→Prop} {v:Value} (h:zRc w cs S v) (hk:Below w.heap.size w w'):zRc w' cs S v:=h.keep fun b hb hl=>⟨hb,hk.block b hl⟩
theorem zRc.nil (w:World) (S:Nat→Prop):zRc w [] S (.slice none 0 0):=⟨[],World.ownsRow_nil _ _ _ _,(fun g h=>by simp [Value.ownBlock] at h),rfl⟩
theorem zvc.length {w:World}:∀ {cs:List Sg} {S:Nat→Prop} {us:List Value},zvc w cs S us→us.length=cs.length
 | [],_,_,h=>by rw [show _=[] from h];rfl
 | c :: cs,_,_,h=>by obtain ⟨u,us',rfl,_,h'⟩:=h;simp [zvc.length h']
theorem zvc.snoc {w:World}:∀ {cs:List Sg} {c:Sg} {S:Nat→Prop} {us:List Value} {u:Value},zvc w cs S us→zje w c.params S u→zvc w (cs++[c]) S (us++[u])
 | [],c,_,us,u,h,h'=>by rw [show us=[] from h];exact ⟨u,[],rfl,h',rfl⟩
 | a :: cs,c,_,_,u,h,h'=>by
  obtain ⟨v,us',rfl,ha,hs⟩:=h
  exact ⟨v,us'++[u],rfl,ha,zvc.snoc hs h'⟩
theorem zvc.get {w:World}:∀ {cs:List Sg} {S:Nat→Prop} {us:List Value},zvc w cs S us→∀ {k:Nat} {c:Sg},cs[k]?=some c→∃ u,us[k]?=some u∧zje w c.params S u
 | [],_,_,_,k,t,h=>by simp at h
 | a :: ts,S,vs,h,0,t,hk=>by
  obtain ⟨v,vs',rfl,ht,_⟩:=h
  obtain rfl:a=t:=by simpa using hk
  exact ⟨v,rfl,ht⟩
 | a :: ts,S,vs,h,k+1,t,hk=>by
  obtain ⟨v,vs',rfl,_,hts⟩:=h
  obtain ⟨u,hu,ht⟩:=zvc.get hts (k:=k) (c:=t) (by simpa using hk)
  exact ⟨u,by simpa using hu,ht⟩
theorem zRc.slice {w:World} {cs:List Sg} {S:Nat→Prop} {v:Value} (h:zRc w cs S v):∃ a c,v=.slice a cs.length c:=by
 obtain ⟨_,ho,_⟩:=h
 rcases ho.2 with ⟨rfl,h0⟩|⟨g,cap,_,rfl,_⟩
 ·exact ⟨_,_,by rw [h0]⟩
 ·exact ⟨_,_,rfl⟩
theorem zRc.lt {w:World} {cs:List Sg} {S:Nat→Prop} {v:Value} (h:zRc w cs S v) {g:Nat} (hg:v.ownBlock=some g):S g∧g<w.heap.size:=by
 obtain ⟨_,ho,hS,_⟩:=h
 exact ⟨hS g hg,(ho.lt g hg).2⟩
theorem zRc.form {w:World} {cs:List Sg} {S:Nat→Prop} {v:Value} (h:zRc w cs S v):(v=.slice none 0 0∧cs=[])∨∃ g cap,v=.slice (some ⟨g,0,none⟩) cs.length cap∧(S g∧g<w.heap.size)∧cs.length≤cap∧cap≤maxLen ∧
  ∀ k c,cs[k]?=some c→∃ p,w.rangeAt g (k * 5) (zka c p)∧zje w c.params S p:=by
 obtain ⟨us,ho,hS,hts⟩:=h
 have ho':=ho
 rcases ho.2 with ⟨rfl,h0⟩|⟨g,cap,cur,rfl,hb,hg,hnc,hcm,hcs,htake⟩
 ·exact .inl ⟨rfl,List.eq_nil_of_length_eq_zero h0⟩
 ·refine .inr ⟨g,cap,rfl,⟨hS g rfl,(Array.getElem?_eq_some_iff.1 hg).1⟩,hnc,hcm,fun k c hk=>?_⟩
  obtain ⟨u,hu,ht⟩:=hts.get hk
  refine ⟨u,fun j x hj=>?_,ht.keep fun b hb hl=>⟨hb.1,rfl⟩⟩
  have hj5:j<5:=by have:=(List.getElem?_eq_some_iff.1 hj).1;simpa [zka] using this
  have hlt:k<cs.length:=(List.getElem?_eq_some_iff.1 hk).1
  rw [ho'.cellAt (k * 5+j) (by omega),zIi cs us k c u j hk hu hj5]
  exact hj
theorem zTg {P:Program} {w:World} {ops:Array Oper} {rest:List Oper} {o:Oper} {a:Act} {Q:Exit→Act→World→Prop} (hgd:o.guard=none) (s x:Operand) {t:TypeId} (ho:o.op=.call { callee:=.builtin .append,args:=#[s,x],argTypes:=#[t,t] })
  {i:TypeInfo} {z:Value} (I:zqe P t 59 5 72 i z) {cs:List Sg} {c:Sg} {S:Nat→Prop} {v p:Value} (hs:a.eval s=v) (hk:zRc w cs S v) (hS:S w.heap.size) {b cc:Nat} (hx:a.eval x=.slice (some ⟨b,0,none⟩) 1 cc)
  (hg:Blk w b (zka c p) 59) (hc:zje w c.params (fun b=>S b∧v.ownBlock≠some b) p) (hb:cs.length+1≤2000000)
  (h:∀ v' w',zRc w' (cs++[c]) S v'→w.grownBy w' v.ownBlock→wpList P ops Q rest (a.put o.dst v') w'):wpList P ops Q (o :: rest) a w:=by
 refine wpList_plain hgd fun _ hK=>?_
 obtain ⟨us,hown,hSv,hks⟩:=hk
 have hnews:∀ j y,(zka c p)[j]?=some y→w.cell? ((⟨b,0,none⟩:Addr).add j)=some y:=fun j y hj=>by rw [Addr.add_mid,Nat.zero_add,hg.cell j];exact hj
 have hbb:(cs.length+1) * 72≤140737488355328:=by omega
 obtain ⟨v',w',hr,ho',hg',_⟩:=run_append_own (P:=P) w 0 t o.type 59 i z 5 72 I.ht I.hi I.hz I.size I.bytes I.zs (by decide) v cs.length (zEh cs us) hown ⟨b,0,none⟩ 1 cc (zka c p) rfl hnews (zWe c hc.one) (by unfold maxLen;omega) hbb (Nat.zero_le _)
 have hbk:=zbe (ty:=o.type) I.ht I.hi I.hz I.size I.bytes hown (by omega) rfl hnews (zWe c hc.one) (by unfold maxLen;omega) hbb hr
 unfold Oper.wp execOp
 simp only [ho,resolve,invoke,builtin,Sem.run_bind,Sem.run_pure,Result.andThen_ok,List.map_toArray,List.map_cons,List.map_nil,hs,hx]
 rw [hr]
 have keep:∀ b,(S b∧v.ownBlock≠some b)→b<w.heap.size→(S b∧v'.ownBlock≠some b)∧w'.heap[b]?=w.heap[b]?:=fun b hb hl=>by
  refine ⟨⟨hb.1,fun h=>?_⟩,hg'.block b hl (Ne.symm hb.2)⟩
  rcases hbk with h'|h'
  ·exact hb.2 (h'▸h)
  ·rw [h'] at h;cases h;exact absurd hl (Nat.lt_irrefl _)
 refine hK _ _ (h v' w' ⟨us++[p],?_,?_,?_⟩ hg')
 ·rw [zah _ _ _ _ hks.length,List.length_append]
  exact ho'
 ·intro g hg2
  rcases hbk with h|h
  ·exact hSv g (h▸hg2)
  ·rw [h] at hg2;cases hg2;exact hS
 ·exact zvc.snoc (zvc.keep _ hks keep) (hc.keep keep)
theorem Tryz.zWt:∃ i z,zqe Tryz.prog 45 59 5 72 i z:=by
 have h:(Tryz.prog.info? 59).map (fun i=>(i.zero,i.size,i.bytes))=some (some (.agg #[.string ⟨#[]⟩,.slice none 0 0,.string ⟨#[]⟩,.int .i64 0,.int .i64 0]),5,72):=by kernel_rfl
 obtain ⟨i0,hi,hz0,hz1,hz2⟩:=info_parts h
 exact ⟨i0,_,Tryz.underlying45,hi,hz0,hz1,hz2,rfl⟩
end Go.Proofs.YtpjnpffcnmgdcaaGreatDoor
