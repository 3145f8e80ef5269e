/- The contract of the parser's block, by how many blocks may yet be opened. append of a whole list of trees, which may be empty: 'n.Kids = append(n.Kids, list...)'. -/
import Derived.Test.YtdhmdfhnkppnmaaDoorY11
import Derived.Deep.LoopGhost
import Derived.Laws.AppendOwnNone
namespace Go.Proofs.YtdhmdfhnkppnmaaDoor
set_option maxRecDepth 100000
set_option maxHeartbeats 1000000
section
open Go.RowKit
theorem zFk {item:List Tok→R T} {n:Nat} {l:List Tok} (hn:0<n) (h:isT (hdT l) (bs [125])=true):zYc item n l=.ok ([],l.tail):=by
 cases n with
 | zero=>omega
 | succ n=>rw [zYc,h];rfl
theorem zDg {item:List Tok→R T} {n:Nat} {l:List Tok} (h:isT (hdT l) (bs [125])=false):zYc item (n+1) l=bd (item l) fun a l1=>bd (zYc item n l1) fun xs l2=>.ok (a :: xs,l2):=by
 rw [zYc,h];rfl
theorem Run.zWf {E:Env} {w W:World} {l:List Tok} {d:Nat} (h:Run E w W l d) (d':Nat) (hd:d'≤8):Run E w (W.setCell ⟨E.pb,2,none⟩ (.int .i64 d')) l d':=⟨h.kp.zDo _ _,h.st.zWf d' hd,h.lo,h.lt⟩
def zSp (E:Env) (w:World) (l1:List Tok) (d g:Nat) (pl:Nat) (item:List Tok→R T) (gk:Nat) (wr:World):Prop :=
 ∃ (ks:List T) (lr:List Tok) (m:Nat) (v:Value),Run E w wr lr d∧Blk wr w.heap.size zba 25∧zDb w wr g (T.mk 9 e0 0 pl ks) v ∧
  zYc item l1.length l1=bd (zYc item m lr) (fun xs l'=>.ok (ks++xs,l'))∧lr.length≤m∧lr.length≤gk∧ks.length+lr.length≤l1.length
theorem zzk {E:Env} {w:World} {l:List Tok} {d:Nat} (h:PSt E w l d) (hd:d=8) :
  Calls Tryd.prog 76 #[.pointer (some ⟨E.pb,0,none⟩)] w (zbb zNb E w l d (zgb 0 l)):=by
 have HR0:=zh ((Run.start h).alloc (.cells zba.toArray 25))
 have HB0:=zh (Blk.new w zba 25)
 have hd8:(((d:Nat):Int) == 8)=true:=by rw [hd];rfl
 clear hd
 have hlo:=h.plt
 have hlt:=h.tlt
 have hln:=h.len
 clear h
 go_enter Tryd.func76,Tryd.ntmps76
 go_wp2_with fail
 refine (zLa HR0.out.st [bs [123]] (by decide) (by decide) (by simp) rfl rfl).mono ?_
 intro e w1 hp
 cases hr:zxa [bs [123]] l with
 | error pc =>
  obtain ⟨p,c⟩:=pc
  obtain ⟨rfl,hk,hcd⟩:=hp.err hr
  have HK:=zh (HR0.out.kp.trans hk)
  have HP:=zh (show zgb 0 l=.error (p,c) by unfold zgb;exact (zpa hr _))
  clear hr hp hk
  go_wp2
  exact ⟨rfl,Run.err HK.out HP.out hcd⟩
 | ok q =>
  obtain ⟨a1,l1⟩:=q
  obtain ⟨v1,rfl,hv,hs,hl,hk⟩:=hp.ok hr
  obtain ⟨rfl,hto⟩:=hv
  have HR1:=zh (HR0.out.call hk hs)
  have hzR1:=HR1.out.size
  have HB1:=zh (HB0.out.kp hk (by omega))
  have hzHB1:=HB1.out.lt
  have HL1:=zh hl
  have H1:=zh hr
  clear hr hp hs hl hk hto
  unfold zsb
  obtain ⟨c0,c1,c2,cf⟩:=HR1.out.st.cell
  have hp1:=HR1.out.st.plt
  have HP:=zh (show zgb 0 l=.error (a1.place,21) by unfold zgb;exact zia H1.out _)
  go_wp2
  exact ⟨rfl,Run.err (HR1.out.alloc _).kp HP.out (.inr rfl)⟩
theorem zEk {E:Env} {w:World} {l:List Tok} {d:Nat} (h:PSt E w l d) {n:Nat} (hB:zMj E (d+1) (zgb n)) (hd:d+1≤8) :
  Calls Tryd.prog 76 #[.pointer (some ⟨E.pb,0,none⟩)] w (zbb zNb E w l d (zgb (n+1) l)):=by
 have HR0:=zh ((Run.start h).alloc (.cells zba.toArray 25))
 have HB0:=zh (Blk.new w zba 25)
 have HBK:=zh hB
 clear hB
 have hd8:(((d:Nat):Int) == 8)=false:=by simp;omega
 have hle:=h.le
 obtain ⟨i0,z0,I⟩:=Tryd.zOc
 have hlo:=h.plt
 have hlt:=h.tlt
 have hln:=h.len
 clear h
 go_enter Tryd.func76,Tryd.ntmps76
 go_wp2_with fail
 refine (zLa HR0.out.st [bs [123]] (by decide) (by decide) (by simp) rfl rfl).mono ?_
 intro e w1 hp
 cases hr:zxa [bs [123]] l with
 | error pc =>
  obtain ⟨p,c⟩:=pc
  obtain ⟨rfl,hk,hcd⟩:=hp.err hr
  have HK:=zh (HR0.out.kp.trans hk)
  have HP:=zh (show zgb (n+1) l=.error (p,c) by unfold zgb;exact (zpa hr _))
  clear hr hp hk
  go_wp2
  exact ⟨rfl,Run.err HK.out HP.out hcd⟩
 | ok q =>
  obtain ⟨a1,l1⟩:=q
  obtain ⟨v1,rfl,hv,hs,hl,hk⟩:=hp.ok hr
  obtain ⟨rfl,hto⟩:=hv
  have HR1:=zh (HR0.out.call hk hs)
  have hzR1:=HR1.out.size
  have HB1:=zh (HB0.out.kp hk (by omega))
  have hzHB1:=HB1.out.lt
  have HL1:=zh hl
  have H1:=zh hr
  clear hr hp hs hl hk hto
  unfold zsb
  obtain ⟨c0,c1,c2,cf⟩:=HR1.out.st.cell
  have hp1:=HR1.out.st.plt
  have HRa:=zh (((HR1.out.zWf (d+1) hd).alloc (.cells (zAa a1).toArray 73)).alloc (.cells (zaa (T.mk 9 e0 0 a1.place []) (.slice none 0 0)).toArray 25))
  have HBa:=zh (((HB1.out.setOther ⟨E.pb,2,none⟩ (.int .i64 ((d+1:Nat):Int)) (by show _≠E.pb;omega)).alloc (.cells (zAa a1).toArray 73)).alloc (.cells (zaa (T.mk 9 e0 0 a1.place []) (.slice none 0 0)).toArray 25))
  have HNa:Hid (zDb w _ (w1.heap.size+1) (T.mk 9 e0 0 a1.place []) (.slice none 0 0)):=(by
   have h1:=zDb.new (w:=w) (t:=T.mk 9 e0 0 a1.place []) (KAt.nil 25 ((w1.setCell ⟨E.pb,2,none⟩ (.int .i64 ((d+1:Nat):Int))).alloc (.cells (zAa a1).toArray 73)) (fun b=>w.heap.size<b)) (by simp [World.setCell];omega)
   rw [show ((w1.setCell ⟨E.pb,2,none⟩ (.int .i64 ((d+1:Nat):Int))).alloc (.cells (zAa a1).toArray 73)).heap.size=w1.heap.size+1 by simp [World.setCell]] at h1
   exact h1)
  have HLL:=zh (show l1.length≤16385 by have:=HL1.out;omega)
  clear hle
  go_wp2_with fail
  go_loopg [27] l1.length (fun gk _ wr=>zSp E w l1 (d+1) (w1.heap.size+1) a1.place (zzc (zgb n)) gk wr)
  case atStart =>
   refine ⟨[],l1,l1.length,_,HRa.out,HBa.out,HNa.out,?_,Nat.le_refl _,Nat.le_refl _,by simp⟩
   cases zYc (zzc (zgb n)) l1.length l1 with
   | error e=>rfl
   | ok q=>obtain ⟨x,y⟩:=q;rfl
  case round =>
   obtain ⟨ks,lr,mm,v,hR,hBl,hN,hE,hm,hg,hcnt⟩:=hrel
   have HR:=zh hR
   have HBr:=zh hBl
   have HNr:=zh hN
   have HE:=zh hE
   have HM:=zh hm
   have HG:=zh hg
   have HC:=zh hcnt
   have HP0:=zh hR.st.head.1
   have hzB:=hBl.lt
   have hzN:=hN.lt
   have hzK:ks.length≤16385:=by have:=HLL.out;omega
   clear hR hBl hN hE hm hg hcnt HRa HBa HNa c0 c1 c2 cf
   cases hi:isT (hdT lr) (bs [125]) with
   | true =>
    have HIi:=zh hi
    clear hi
    go_wp2_with fail
    refine (zBa HR.out.st HIi.out (by decide)).mono ?_
    rintro e w2 ⟨rfl,hs,hk⟩
    have HR2:=zh (HR.out.call hk hs)
    have hzR2:=HR2.out.size
    have HB2:=zh (HBr.out.kp hk (by omega))
    have hzHB2:=HB2.out.lt
    have HN2:=zh (HNr.out.kp hk (by first|omega|(have:=HR0.out.size;simp at *;omega)))
    have hzHN2:=HN2.out.lt
    clear hs hk
    obtain ⟨c0,c1,c2,cf⟩:=HR2.out.st.cell
    have hp2:=HR2.out.st.plt
    have HRb:=zh (HR2.out.zWf d (by omega))
    have HBb:=zh (HB2.out.setOther ⟨E.pb,2,none⟩ (.int .i64 (d:Int)) (by show _≠E.pb;omega))
    have HNb:=zh (HN2.out.setOther ⟨E.pb,2,none⟩ (.int .i64 (d:Int)) (by show _≠E.pb;omega) (fun b h1 _=>by show _≠E.pb;omega))
    have hcast:((d+1:Nat):Int)-1=(d:Int):=by omega
    have HS:=zh (show zYc (zzc (zgb n)) l1.length l1=.ok (ks,lr.tail) by rw [HE.out,zia (zFk (by have:=HM.out;have:=HP0.out;omega) HIi.out)];simp)
    clear hd8
    have HP:=zh (show zgb (n+1) l=.ok (T.mk 9 e0 0 a1.place ks,lr.tail) by unfold zgb;exact ((zia H1.out _)).trans ((zia HS.out _)))
    go_wp2_with (first|((with_reducible refine zva 25 (.tmp 4) ?_);refine zfa rfl 25 (.tmp 4) rfl (w1.heap.size+1) (zaa (T.mk 9 e0 0 a1.place ks) (v)) rfl HNb.out.blk Tryd.underlying25 rfl Tryd.zca ?_)|((with_reducible refine zra 25 (.tmp 2) ?_);refine zea rfl 25 (.tmp 2) (.tmp 44) rfl w.heap.size (zaa (T.mk 9 e0 0 a1.place ks) (v)) rfl rfl HBb.out Tryd.zca rfl (zda _ _ HNb.out.kids.one) ?_))
    exact zua (cs:=zaa (T.mk 9 e0 0 a1.place ks) (v)) Tryd.results76 rfl HBb.out Tryd.underlying25 rfl Tryd.zca rfl (Run.node HRb.out (TAt.zoc (HNb.out.kids.mono (fun _ hb _=>hb.1))) HP.out (by have:=HL1.out;have:=HC.out;first|omega|(simp only [List.length_tail] at *;omega)))
   | false =>
    have HIi:=zh hi
    clear hi
    go_wp2_with fail
    refine (zFa HR.out.st HIi.out).mono ?_
    rintro e w2 ⟨rfl,hb⟩
    have HR2:=zh (HR.out.below hb)
    have hzR2:=HR2.out.size
    have HB2:=zh (HBr.out.kp (Kp.of_below (pb:=E.pb) hb) (by omega))
    have hzHB2:=HB2.out.lt
    have HN2:=zh (HNr.out.kp (Kp.of_below (pb:=E.pb) hb) (by first|omega|(have:=HR0.out.size;simp at *;omega)))
    have hzHN2:=HN2.out.lt
    clear hb
    obtain ⟨m0,rfl⟩:∃ m0,mm=m0+1:=⟨mm-1,by have:=HM.out;have:=HP0.out;omega⟩
    go_wp2_with fail
    refine AnyE.zHb (S:=fun W=>Blk W (w1.heap.size+1) (zaa (T.mk 9 e0 0 a1.place ks) (v)) 25) (by kernel_rfl) (HN2.out.blk.drew) (fun hS=>?_)
    refine AnyE.take (i:=0) (v:=.pointer (some ⟨w1.heap.size+1,4,none⟩)) rfl (by kernel_rfl) (by kernel_rfl) (by kernel_rfl) (by kernel_rfl) (fun _ _ _ h=>h) (Or.inl ⟨by rfl,fun W _=>by go_simp⟩) hS ?_
    refine AnyE.take (i:=1) (v:=v) rfl (by kernel_rfl) (by kernel_rfl) (by kernel_rfl) (by kernel_rfl) (fun _ _ _ h=>h) (Or.inl ⟨by rfl,fun W hW=>by have hcx:W.cell? ⟨w1.heap.size+1,4,none⟩=some (v):=hW.cell 4;go_simp⟩) hS ?_
    refine AnyE.take (i:=2) (v:=.pointer (some ⟨E.pb,0,none⟩)) rfl (by kernel_rfl) (by kernel_rfl) (by kernel_rfl) (by kernel_rfl) (fun _ _ _ h=>h) (Or.inl ⟨by rfl,fun W _=>by go_simp⟩) hS ?_
    refine AnyE.one (i:=3) (by kernel_rfl) rfl (by rfl) (fun K hK=>?_)
    go_simp
    refine (zOh (HR2.out.drew).st HBK.out).mono ?_
    intro e w3 hp
    cases hr:zzc (zgb n) lr with
    | error pc =>
     obtain ⟨p,c⟩:=pc
     obtain ⟨rfl,hk,hcd⟩:=hp.err hr
     have HK:=zh ((HR2.out.drew).kp.trans hk)
     have HP:=zh (show zgb (n+1) l=.error (p,c) by unfold zgb;exact (zia H1.out _).trans (zpa (HE.out.trans (zpa ((zDg HIi.out).trans ((zpa hr _))) _)) _))
     clear hr hp hk
     go_wp2
     exact ⟨rfl,Run.err HK.out HP.out hcd⟩
    | ok q =>
     obtain ⟨a3,l3⟩:=q
     obtain ⟨v3,rfl,hv,hs,hl,hk⟩:=hp.ok hr
     obtain ⟨kv3,rfl,ht⟩:=hv
     have HT3:=zh (ht.weak (HB2.out.drew).lt)
     have huHN3:=Blk.zcb hk (HN2.out.drew).blk
     have HU3:=zh (ht.mono (S':=fun b=>w.heap.size<b∧(w1.heap.size+1)<b) (fun b hb _=>by have:=Blk.zcb hk (HB2.out.drew);omega))
     have HF3:=zh (zDb.fresh hk (HN2.out.drew) ht)
     have HG3:=zh (zDb.zef hk (HN2.out.drew) ht)
     have HR3:=zh ((HR2.out.drew).call hk hs)
     have hzR3:=HR3.out.size
     have HB3:=zh ((HB2.out.drew).kp hk (by omega))
     have hzHB3:=HB3.out.lt
     have HN3:=zh ((HN2.out.drew).kp hk (by first|omega|(have:=HR0.out.size;simp at *;omega)))
     have hzHN3:=HN3.out.lt
     have HL3:=zh hl
     have H3:=zh hr
     clear hr hp hs hl hk ht
     unfold zma
     refine hK.out _ _ (fun _=>HN3.out.blk) ?_
     clear hK K
     refine AnyE.one (i:=4) (by kernel_rfl) rfl (by rfl) (fun K hK=>?_)
     go_simp
     refine hK.out _ _ (fun _=>(HN3.out.alloc _).blk) ?_
     clear hK K
     refine AnyE.one (i:=5) (by kernel_rfl) rfl (by rfl) (fun K hK=>?_)
     refine zOa (.tmp 31) (.tmp 34) rfl I (ts:=[a3]) rfl (HN3.out.alloc _).kids (us:=[kv3]) (zlb.single (HF3.out.alloc _)) ⟨by simp;omega,by simp;omega⟩ rfl rfl (by simp) (zde w3 _ a3 kv3) (by show ks.length+_≤_;simp;omega) ?_
     intro v3x w3x hKx hgx _
     obtain ⟨sa3x,sn3x,sc3x,rfl⟩:=hKx.slice
     obtain ⟨h1,h2,h3,hcx,hfx,h6⟩:=zTa (HR3.out.alloc _) (HB3.out.alloc _) (HN3.out.alloc _) hKx hgx
     have HR3x:=zh h1
     have HB3x:=zh h2
     have HN3x:=zh h3
     have HC3x:=zh h6
     clear h1 h2 h3 h6 hKx hgx
     refine hK.out _ _ (fun _=>HC3x.out) ?_
     clear hK K
     refine AnyE.one (i:=6) (by kernel_rfl) rfl (by rfl) (fun K hK=>?_)
     go_simp
     refine hK.out _ _ (fun _=>HC3x.out) ?_
     clear hK K
     refine AnyE.one (i:=7) (by kernel_rfl) rfl (by rfl) (fun K hK=>?_)
     go_simp
     refine hK.out _ _ (fun h=>absurd rfl h) ?_
     clear hK K
     refine AnyE.done (by kernel_rfl) ?_ _
     clear hcx hfx
     generalize w3x.setCell ⟨w1.heap.size+1,4,none⟩ (.slice sa3x sn3x sc3x)=w3y at HR3x HB3x HN3x ⊢
     have hzHB3y:=HB3x.out.lt
     have hzHN3y:=HN3x.out.lt
     go_wp2
     go_roundg (gk-1)
     case measure=>have:=HG.out;have:=HP0.out;omega
     case rel =>
      have h1:=HL3.out
      have h2:=HM.out
      have h4:=HG.out
      have h5:=HC.out
      have h6:=HP0.out
      refine ⟨ks++[a3],l3,m0,_,HR3x.out,HB3x.out,HN3x.out,?_,by omega,by omega,by simp;omega⟩
      rw [HE.out,zDg HIi.out,zok,zia H3.out,zok]
      congr 1
      funext xs l'
      simp [bd]
theorem zSn (E:Env):∀ (n d:Nat),d+n=8→zMj E d (zgb n)
 | 0,d,hd=>⟨fun h=>zzk h (by omega)⟩
 | n+1,d,hd=>⟨fun h=>zEk h (zSn E n (d+1) (by omega)) (by omega)⟩
end
section
open Go.RowKit
theorem zQh {P:Program} {w:World} {t ty e:TypeId} {i:TypeInfo} (ht:P.underlying t=some (.slice e)) (hi:P.info? e=some i) (hsize:i.size=5)
  {v:Value} {n:Nat} {xs:List Value} (hown:w.ownsRow 0 e 5 v n xs) {a:Addr} {c:Nat} {v':Value} {w':World} (hr:(Builtin.append_ #[t,t] ty #[v,.slice (some a) 0 c]).run P w=.ok v' w') (hnil:v=.slice none 0 0→v'=.slice none 0 0):v'.ownBlock=v.ownBlock:=by
 rcases hown.2 with ⟨rfl,rfl⟩|⟨g,cap,cur,rfl,hbg,hg,hnc,hcm,hcs,htake⟩
 ·rw [hnil rfl]
 ·have h:=run_append_room (P:=P) w t ty e i ht hi g n cap cur hg a 0 c [] (by simp) (by simp) (by simp) (by omega) (by rw [hcs,hsize];simp;exact Nat.mul_le_mul_right _ hnc)
  rw [h] at hr
  cases hr
  rfl
theorem zvc {P:Program} {w:World} {o:Oper} {a:Act} {K:Act→World→Prop} {Q:Exit→Act→World→Prop} (s x:Operand) {t e:TypeId} (ho:o.op=.call { callee:=.builtin .append,args:=#[s,x],argTypes:=#[t,t] })
  {i:TypeInfo} {z:Value} (I:zke P t e i z) {ks ts:List T} {S:Nat→Prop} {v y:Value} (hs:a.eval s=v) (hk:KAt e w ks S v) (hx:a.eval x=y)
  (hts:KAt e w ts (fun b=>S b∧v.ownBlock≠some b) y) (hS:S w.heap.size) (hb:ks.length+ts.length≤100000)
  (h:∀ v' w',KAt e w' (ks++ts) S v'→w.grownBy w' v.ownBlock→K (a.put o.dst v') w'):o.wp P a w K Q:=by
 obtain ⟨us,ho',hSu,hus⟩:=hts
 have hus':zlb e w ts (fun b=>S b∧v.ownBlock≠some b) us:=zlb.keep ts hus fun b hb _=>⟨hb.1,rfl⟩
 rcases ho'.2 with ⟨rfl,h0⟩|⟨g,cap,cur,rfl,hbg,hg,hnc,hcm,hcs,htake⟩
 ·obtain rfl:ts=[]:=List.eq_nil_of_length_eq_zero h0
  have hk':=hk
  obtain ⟨vs,hown,_⟩:=hk
  have hrun:=run_append_owned_none (P:=P) (w:=w) 0 t o.type e i 5 I.ht I.hi v ks.length _ hown
  unfold Oper.wp
  simp [execOp,ho,resolve,invoke,builtin,hs,hx,hrun,Result.andThen]
  exact h v w (by rw [List.append_nil];exact hk') ⟨rfl,rfl,rfl,Nat.le_refl _,fun _ _ _=>rfl⟩
 ·by_cases hm:0<ts.length
  ·exact zOa s x ho I hs hk hus' hS hx rfl hm (ho'.cells (g:=g) rfl) hb fun v' w' h1 h2 _=>h v' w' h1 h2
  ·obtain rfl:ts=[]:=List.eq_nil_of_length_eq_zero (by omega)
   obtain ⟨vs,hown,hSv,hks⟩:=hk
   obtain ⟨v',w',hr,ho2,hg',hnil⟩:=run_append_own (P:=P) w 0 t o.type e i z 5 64 I.ht I.hi I.hz I.size I.bytes I.zs (by decide) v ks.length (zDa ks vs) hown ⟨g,0,none⟩ 0 cap [] (by simp) (by simp) (by simp) (by unfold maxLen;simp at hb;omega) (by simp at hb;omega) (Nat.zero_le _)
   have hbk:=zQh I.ht I.hi I.size hown hr (fun hv=>hnil.2 ⟨hv,rfl⟩)
   unfold Oper.wp execOp
   simp only [ho,resolve,invoke,builtin,Sem.run_bind,Sem.run_pure,Result.andThen_ok,List.map_toArray,List.map_cons,List.map_nil,hs,hx,List.length_nil,hr]
   refine h v' w' ⟨vs,?_,fun g hg=>hSv g (hbk▸hg),?_⟩ hg'
   ·rw [List.append_nil]
    simpa using ho2
   ·rw [List.append_nil]
    exact zlb.keep ks hks fun b hb hl=>⟨⟨hb.1,fun he=>hb.2 (hbk▸he)⟩,hg'.block b hl (Ne.symm hb.2)⟩
end
end Go.Proofs.YtdhmdfhnkppnmaaDoor
namespace Go.Proofs.YtdhmdfhnkppnmaaDoor
set_option maxRecDepth 100000
set_option maxHeartbeats 1000000
open Go.RowKit
theorem zmm (E:Env) (d:Nat):zUk E d 71 zUb:=⟨fun args w=>zWc Tryd.func71 (by kernel_rfl) (by kernel_rfl) args w,fun h=>zpl h⟩
theorem zyj (E:Env) (d:Nat):zUk E d 72 zze:=⟨fun args w=>zWc Tryd.func72 (by kernel_rfl) (by kernel_rfl) args w,fun h=>zsn h⟩
theorem zVg {E:Env} {w:World} {l:List Tok} {d:Nat} (h:PSt E w l d) (pl:Nat) :
  Calls Tryd.prog 51 #[.pointer (some ⟨E.pb,0,none⟩),.int .i64 pl] w (zbb zNb E w l d (zzb pl l)):=by
 have HR0:=zh ((Run.start h).alloc (.cells zba.toArray 25))
 have HB0:=zh (Blk.new w zba 25)
 obtain ⟨i0,z0,I⟩:=Tryd.zOc
 have hmf:=zkb
 have hlo:=h.plt
 have hlt:=h.tlt
 have hln:=h.len
 clear h
 go_enter Tryd.func51,Tryd.ntmps51
 go_wp2_with fail
 refine (name_any HR0.out.st).mono ?_
 intro e w1 hp
 cases hr:zac l with
 | error pc =>
  obtain ⟨p,c⟩:=pc
  obtain ⟨rfl,hk,hcd⟩:=hp.err hr
  have HK:=zh (HR0.out.kp.trans hk)
  have HP:=zh (show zzb pl l=.error (p,c) by unfold zzb;exact (zpa hr _))
  clear hr hp hk
  go_wp2
  exact ⟨rfl,Run.err HK.out HP.out hcd⟩
 | ok q =>
  obtain ⟨a1,l1⟩:=q
  obtain ⟨v1,rfl,hv,hs,hl,hk⟩:=hp.ok hr
  obtain rfl:v1=.string a1:=hv
  have HR1:=zh (HR0.out.call hk hs)
  have hzR1:=HR1.out.size
  have HB1:=zh (HB0.out.kp hk (by omega))
  have hzHB1:=HB1.out.lt
  have HL1:=zh hl
  have H1:=zh hr
  clear hr hp hs hl hk
  go_wp2_with fail
  refine AnyE.zHb (S:=fun W=>Blk W (w1.heap.size) (zaa (T.mk 1 a1 0 pl []) (.slice none 0 0)) 25) (by kernel_rfl) ((zDb.new (w:=w) (t:=T.mk 1 a1 0 pl []) (KAt.nil _ w1 _) hzHB1).blk.drew) (fun hS=>?_)
  refine AnyE.take (i:=0) (v:=.pointer (some ⟨w1.heap.size,4,none⟩)) rfl (by kernel_rfl) (by kernel_rfl) (by kernel_rfl) (by kernel_rfl) (fun _ _ _ h=>h) (Or.inl ⟨by rfl,fun W _=>by go_simp⟩) hS ?_
  refine AnyE.take (i:=1) (v:=.slice none 0 0) rfl (by kernel_rfl) (by kernel_rfl) (by kernel_rfl) (by kernel_rfl) (fun _ _ _ h=>h) (Or.inl ⟨by rfl,fun W hW=>by have hcx:W.cell? ⟨w1.heap.size,4,none⟩=some (.slice none 0 0):=hW.cell 4;go_simp⟩) hS ?_
  refine AnyE.take (i:=2) (v:=.pointer (some ⟨E.pb,0,none⟩)) rfl (by kernel_rfl) (by kernel_rfl) (by kernel_rfl) (by kernel_rfl) (fun _ _ _ h=>h) (Or.inl ⟨by rfl,fun W _=>by go_simp⟩) hS ?_
  refine AnyE.one (i:=3) (by kernel_rfl) rfl (by rfl) (fun K hK=>?_)
  go_simp
  refine (zHn ((HR1.out.alloc _).drew).st).mono ?_
  intro e w2 hp
  cases hr:zKd l1 with
  | error pc =>
   obtain ⟨p,c⟩:=pc
   obtain ⟨rfl,hk,hcd⟩:=hp.err hr
   have HK:=zh (((HR1.out.alloc _).drew).kp.trans hk)
   have HP:=zh (show zzb pl l=.error (p,c) by unfold zzb;exact ((zia H1.out _)).trans ((zpa hr _)))
   clear hr hp hk
   go_wp2
   exact ⟨rfl,Run.err HK.out HP.out hcd⟩
  | ok q =>
   obtain ⟨a2,l2⟩:=q
   obtain ⟨v2,rfl,hv,hs,hl,hk⟩:=hp.ok hr
   obtain ⟨kv2,rfl,ht⟩:=hv
   have HT2:=zh (ht.weak ((HB1.out.alloc _).drew).lt)
   have huHN2:=Blk.zcb hk ((zDb.new (w:=w) (t:=T.mk 1 a1 0 pl []) (KAt.nil _ w1 _) hzHB1).drew).blk
   have HU2:=zh (ht.mono (S':=fun b=>w.heap.size<b∧w1.heap.size<b) (fun b hb _=>by have:=Blk.zcb hk ((HB1.out.alloc _).drew);omega))
   have HF2:=zh (zDb.fresh hk ((zDb.new (w:=w) (t:=T.mk 1 a1 0 pl []) (KAt.nil _ w1 _) hzHB1).drew) ht)
   have HG2:=zh (zDb.zef hk ((zDb.new (w:=w) (t:=T.mk 1 a1 0 pl []) (KAt.nil _ w1 _) hzHB1).drew) ht)
   have HR2:=zh (((HR1.out.alloc _).drew).call hk hs)
   have hzR2:=HR2.out.size
   have HB2:=zh (((HB1.out.alloc _).drew).kp hk (by omega))
   have hzHB2:=HB2.out.lt
   have HN2:=zh (((zDb.new (w:=w) (t:=T.mk 1 a1 0 pl []) (KAt.nil _ w1 _) hzHB1).drew).kp hk (by first|omega|(have:=HR0.out.size;simp at *;omega)))
   have hzHN2:=HN2.out.lt
   have HL2:=zh hl
   have H2:=zh hr
   clear hr hp hs hl hk ht
   unfold zma
   refine hK.out _ _ (fun _=>HN2.out.blk) ?_
   clear hK K
   refine AnyE.one (i:=4) (by kernel_rfl) rfl (by rfl) (fun K hK=>?_)
   go_simp
   refine hK.out _ _ (fun _=>(HN2.out.alloc _).blk) ?_
   clear hK K
   refine AnyE.one (i:=5) (by kernel_rfl) rfl (by rfl) (fun K hK=>?_)
   refine zOa (.tmp 11) (.tmp 14) rfl I (ts:=[a2]) rfl (HN2.out.alloc _).kids (us:=[kv2]) (zlb.single (HF2.out.alloc _)) ⟨by simp;omega,by simp;omega⟩ rfl rfl (by simp) (zde w2 _ a2 kv2) (by show 0+1≤_;decide) ?_
   intro v2x w2x hKx hgx _
   obtain ⟨sa2x,sn2x,sc2x,rfl⟩:=hKx.slice
   obtain ⟨h1,h2,h3,hcx,hfx,h6⟩:=zTa (HR2.out.alloc _) (HB2.out.alloc _) (HN2.out.alloc _) hKx hgx
   have HR2x:=zh h1
   have HB2x:=zh h2
   have HN2x:=zh h3
   have HC2x:=zh h6
   clear h1 h2 h3 h6 hKx hgx
   refine hK.out _ _ (fun _=>HC2x.out) ?_
   clear hK K
   refine AnyE.one (i:=6) (by kernel_rfl) rfl (by rfl) (fun K hK=>?_)
   go_simp
   refine hK.out _ _ (fun _=>HC2x.out) ?_
   clear hK K
   refine AnyE.one (i:=7) (by kernel_rfl) rfl (by rfl) (fun K hK=>?_)
   go_simp
   refine hK.out _ _ (fun h=>absurd rfl h) ?_
   clear hK K
   refine AnyE.done (by kernel_rfl) ?_ _
   clear hcx hfx
   generalize w2x.setCell ⟨w1.heap.size,4,none⟩ (.slice sa2x sn2x sc2x)=w2y at HR2x HB2x HN2x ⊢
   have hzHB2y:=HB2x.out.lt
   have hzHN2y:=HN2x.out.lt
   cases hi:isT (hdT l2) (bs [123]) with
   | false =>
    have HIi:=zh hi
    clear hi
    have HFI:=zh (show zdd l2=.ok ([],l2) by unfold zdd;exact zja HIi.out _ _)
    go_wp2_with fail
    refine (zFa HR2x.out.st HIi.out).mono ?_
    rintro e w3 ⟨rfl,hb⟩
    have HR3:=zh (HR2x.out.below hb)
    have hzR3:=HR3.out.size
    have HB3:=zh (HB2x.out.kp (Kp.of_below (pb:=E.pb) hb) (by omega))
    have hzHB3:=HB3.out.lt
    have HN3:=zh (HN2x.out.kp (Kp.of_below (pb:=E.pb) hb) (by first|omega|(have:=HR0.out.size;simp at *;omega)))
    have hzHN3:=HN3.out.lt
    clear hb
    cases hw:isT (hdT l2) (bs [119,104,101,114,101]) with
    | false =>
     have HIw:=zh hw
     clear hw
     go_wp2_with fail
     refine (zFa HR3.out.st HIw.out).mono ?_
     rintro e w4 ⟨rfl,hb⟩
     have HR4:=zh (HR3.out.below hb)
     have hzR4:=HR4.out.size
     have HB4:=zh (HB3.out.kp (Kp.of_below (pb:=E.pb) hb) (by omega))
     have hzHB4:=HB4.out.lt
     have HN4:=zh (HN3.out.kp (Kp.of_below (pb:=E.pb) hb) (by first|omega|(have:=HR0.out.size;simp at *;omega)))
     have hzHN4:=HN4.out.lt
     clear hb
     have HFA:=zh (show zXc l2=.ok ([],l2) by unfold zXc;exact zja HIw.out _ _)
     go_wp2_with fail
     refine (zLa HR4.out.st [bs [59]] (by decide) (by decide) (by simp) rfl rfl).mono ?_
     intro e w5 hp
     cases hr:zxa [bs [59]] l2 with
     | error pc =>
      obtain ⟨p,c⟩:=pc
      obtain ⟨rfl,hk,hcd⟩:=hp.err hr
      have HK:=zh (HR4.out.kp.trans hk)
      have HP:=zh (show zzb pl l=.error (p,c) by unfold zzb;exact ((zia H1.out _)).trans (((zia H2.out _)).trans (((zia HFI.out _)).trans (((zia HFA.out _)).trans ((zpa hr _))))))
      clear hr hp hk
      go_wp2
      exact ⟨rfl,Run.err HK.out HP.out hcd⟩
     | ok q =>
      obtain ⟨a5,l5⟩:=q
      obtain ⟨v5,rfl,hv,hs,hl,hk⟩:=hp.ok hr
      obtain ⟨rfl,hto⟩:=hv
      have HR5:=zh (HR4.out.call hk hs)
      have hzR5:=HR5.out.size
      have HB5:=zh (HB4.out.kp hk (by omega))
      have hzHB5:=HB5.out.lt
      have HN5:=zh (HN4.out.kp hk (by first|omega|(have:=HR0.out.size;simp at *;omega)))
      have hzHN5:=HN5.out.lt
      have HL5:=zh hl
      have H5:=zh hr
      clear hr hp hs hl hk hto
      unfold zsb
      have HP:=zh (show zzb pl l=.ok (T.mk 1 a1 0 pl ([]++[a2]),l5) by unfold zzb;rw [show ([]++[a2])=(a2 :: ([]++[])) by simp];exact ((zia H1.out _)).trans (((zia H2.out _)).trans (((zia HFI.out _)).trans (((zia HFA.out _)).trans ((zia H5.out _))))))
      go_wp2_with (first|((with_reducible refine zva 25 (.tmp 5) ?_);refine zfa rfl 25 (.tmp 5) rfl (w1.heap.size) (zaa (T.mk 1 a1 0 pl ([]++[a2])) (.slice sa2x sn2x sc2x)) rfl HN5.out.blk Tryd.underlying25 rfl Tryd.zca ?_)|((with_reducible refine zra 25 (.tmp 4) ?_);refine zea rfl 25 (.tmp 4) (.tmp 43) rfl w.heap.size (zaa (T.mk 1 a1 0 pl ([]++[a2])) (.slice sa2x sn2x sc2x)) rfl rfl HB5.out Tryd.zca rfl (zda _ _ HN5.out.kids.one) ?_))
      exact zua (cs:=zaa (T.mk 1 a1 0 pl ([]++[a2])) (.slice sa2x sn2x sc2x)) Tryd.results51 rfl HB5.out Tryd.underlying25 rfl Tryd.zca rfl (Run.node HR5.out (TAt.zoc (HN5.out.kids.mono (fun _ hb _=>hb.1))) HP.out (by have:=HL1.out;have:=HL2.out;have:=HL5.out;first|omega|(simp only [List.length_tail] at *;omega)))
    | true =>
     have HIw:=zh hw
     clear hw
     go_wp2_with fail
     refine (zBa HR3.out.st HIw.out (by decide)).mono ?_
     rintro e w4 ⟨rfl,hs,hk⟩
     have HR4:=zh (HR3.out.call hk hs)
     have hzR4:=HR4.out.size
     have HB4:=zh (HB3.out.kp hk (by omega))
     have hzHB4:=HB4.out.lt
     have HN4:=zh (HN3.out.kp hk (by first|omega|(have:=HR0.out.size;simp at *;omega)))
     have hzHN4:=HN4.out.lt
     clear hs hk
     have HFA:=zh (show zXc l2=_ by unfold zXc;exact zya HIw.out _ _)
     go_wp2_with fail
     refine AnyE.zHb (S:=fun W=>Blk W (w1.heap.size) (zaa (T.mk 1 a1 0 pl ([]++[a2])) (.slice sa2x sn2x sc2x)) 25) (by kernel_rfl) (HN4.out.blk.drew) (fun hS=>?_)
     refine AnyE.take (i:=0) (v:=.pointer (some ⟨w1.heap.size,4,none⟩)) rfl (by kernel_rfl) (by kernel_rfl) (by kernel_rfl) (by kernel_rfl) (fun _ _ _ h=>h) (Or.inl ⟨by rfl,fun W _=>by go_simp⟩) hS ?_
     refine AnyE.take (i:=1) (v:=.slice sa2x sn2x sc2x) rfl (by kernel_rfl) (by kernel_rfl) (by kernel_rfl) (by kernel_rfl) (fun _ _ _ h=>h) (Or.inl ⟨by rfl,fun W hW=>by have hcx:W.cell? ⟨w1.heap.size,4,none⟩=some (.slice sa2x sn2x sc2x):=hW.cell 4;go_simp⟩) hS ?_
     refine AnyE.take (i:=2) (v:=.pointer (some ⟨E.pb,0,none⟩)) rfl (by kernel_rfl) (by kernel_rfl) (by kernel_rfl) (by kernel_rfl) (fun _ _ _ h=>h) (Or.inl ⟨by rfl,fun W _=>by go_simp⟩) hS ?_
     refine AnyE.take (i:=3) (v:=.pointer (some ⟨E.pb,0,none⟩)) rfl (by kernel_rfl) (by kernel_rfl) (by kernel_rfl) (by kernel_rfl) (fun _ _ _ h=>h) (Or.inl ⟨by rfl,fun W _=>by go_simp⟩) hS ?_
     refine AnyE.take (i:=4) (v:=.func (.func 72) #[.pointer (some ⟨E.pb,0,none⟩)] #[]) rfl (by kernel_rfl) (by kernel_rfl) (by kernel_rfl) (by kernel_rfl) (fun _ _ _ h=>h) (Or.inl ⟨by rfl,fun W _=>by go_simp⟩) hS ?_
     refine AnyE.one (i:=5) (by kernel_rfl) rfl (by rfl) (fun K hK=>?_)
     go_simp
     refine (zXf (HR4.out.drew).st (zyj E d)).mono ?_
     intro e w5 hp
     cases hr:zAd zze l2.tail with
     | error pc =>
      obtain ⟨p,c⟩:=pc
      obtain ⟨rfl,hk,hcd⟩:=hp.err hr
      have HK:=zh ((HR4.out.drew).kp.trans hk)
      have HP:=zh (show zzb pl l=.error (p,c) by unfold zzb;exact ((zia H1.out _)).trans (((zia H2.out _)).trans (((zia HFI.out _)).trans ((zpa (HFA.out.trans hr) _)))))
      clear hr hp hk
      go_wp2
      exact ⟨rfl,Run.err HK.out HP.out hcd⟩
     | ok q =>
      obtain ⟨a5,l5⟩:=q
      obtain ⟨v5,rfl,hv,hs,hl,hk⟩:=hp.ok hr
      have HF5:=zh (zDb.zbf hk (HN4.out.drew) hv.1)
      have HC5:=zh hv.2
      have HR5:=zh ((HR4.out.drew).call hk hs)
      have hzR5:=HR5.out.size
      have HB5:=zh ((HB4.out.drew).kp hk (by omega))
      have hzHB5:=HB5.out.lt
      have HN5:=zh ((HN4.out.drew).kp hk (by first|omega|(have:=HR0.out.size;simp at *;omega)))
      have hzHN5:=HN5.out.lt
      have HL5:=zh hl
      have H5:=zh hr
      clear hr hp hs hl hk hv
      refine hK.out _ _ (fun _=>HN5.out.blk) ?_
      clear hK K
      refine AnyE.one (i:=6) (by kernel_rfl) rfl (by rfl) (fun K hK=>?_)
      refine zvc (.tmp 33) (.tmp 37) rfl I rfl HN5.out.kids rfl HF5.out ⟨by omega,by omega⟩ (by show (([]++[a2])).length+_≤_;simp;have:=HC5.out;omega) ?_
      intro v5x w5x hKx hgx
      obtain ⟨sa5x,sn5x,sc5x,rfl⟩:=hKx.slice
      obtain ⟨h1,h2,h3,hcx,hfx,h6⟩:=zTa HR5.out HB5.out HN5.out hKx hgx
      have HR5x:=zh h1
      have HB5x:=zh h2
      have HN5x:=zh h3
      have HC5x:=zh h6
      clear h1 h2 h3 h6 hKx hgx
      refine hK.out _ _ (fun _=>HC5x.out) ?_
      clear hK K
      refine AnyE.one (i:=7) (by kernel_rfl) rfl (by rfl) (fun K hK=>?_)
      go_simp
      refine hK.out _ _ (fun _=>HC5x.out) ?_
      clear hK K
      refine AnyE.one (i:=8) (by kernel_rfl) rfl (by rfl) (fun K hK=>?_)
      go_simp
      refine hK.out _ _ (fun h=>absurd rfl h) ?_
      clear hK K
      refine AnyE.done (by kernel_rfl) ?_ _
      clear hcx hfx
      generalize w5x.setCell ⟨w1.heap.size,4,none⟩ (.slice sa5x sn5x sc5x)=w5y at HR5x HB5x HN5x ⊢
      have hzHB5y:=HB5x.out.lt
      have hzHN5y:=HN5x.out.lt
      go_wp2_with fail
      refine (zLa HR5x.out.st [bs [59]] (by decide) (by decide) (by simp) rfl rfl).mono ?_
      intro e w6 hp
      cases hr:zxa [bs [59]] l5 with
      | error pc =>
       obtain ⟨p,c⟩:=pc
       obtain ⟨rfl,hk,hcd⟩:=hp.err hr
       have HK:=zh (HR5x.out.kp.trans hk)
       have HP:=zh (show zzb pl l=.error (p,c) by unfold zzb;exact ((zia H1.out _)).trans (((zia H2.out _)).trans (((zia HFI.out _)).trans (((zia (HFA.out.trans H5.out) _)).trans ((zpa hr _))))))
       clear hr hp hk
       go_wp2
       exact ⟨rfl,Run.err HK.out HP.out hcd⟩
      | ok q =>
       obtain ⟨a6,l6⟩:=q
       obtain ⟨v6,rfl,hv,hs,hl,hk⟩:=hp.ok hr
       obtain ⟨rfl,hto⟩:=hv
       have HR6:=zh (HR5x.out.call hk hs)
       have hzR6:=HR6.out.size
       have HB6:=zh (HB5x.out.kp hk (by omega))
       have hzHB6:=HB6.out.lt
       have HN6:=zh (HN5x.out.kp hk (by first|omega|(have:=HR0.out.size;simp at *;omega)))
       have hzHN6:=HN6.out.lt
       have HL6:=zh hl
       have H6:=zh hr
       clear hr hp hs hl hk hto
       unfold zsb
       have HP:=zh (show zzb pl l=.ok (T.mk 1 a1 0 pl (([]++[a2])++a5),l6) by unfold zzb;rw [show (([]++[a2])++a5)=(a2 :: ([]++a5)) by simp];exact ((zia H1.out _)).trans (((zia H2.out _)).trans (((zia HFI.out _)).trans (((zia (HFA.out.trans H5.out) _)).trans ((zia H6.out _))))))
       go_wp2_with (first|((with_reducible refine zva 25 (.tmp 5) ?_);refine zfa rfl 25 (.tmp 5) rfl (w1.heap.size) (zaa (T.mk 1 a1 0 pl (([]++[a2])++a5)) (.slice sa5x sn5x sc5x)) rfl HN6.out.blk Tryd.underlying25 rfl Tryd.zca ?_)|((with_reducible refine zra 25 (.tmp 4) ?_);refine zea rfl 25 (.tmp 4) (.tmp 43) rfl w.heap.size (zaa (T.mk 1 a1 0 pl (([]++[a2])++a5)) (.slice sa5x sn5x sc5x)) rfl rfl HB6.out Tryd.zca rfl (zda _ _ HN6.out.kids.one) ?_))
       exact zua (cs:=zaa (T.mk 1 a1 0 pl (([]++[a2])++a5)) (.slice sa5x sn5x sc5x)) Tryd.results51 rfl HB6.out Tryd.underlying25 rfl Tryd.zca rfl (Run.node HR6.out (TAt.zoc (HN6.out.kids.mono (fun _ hb _=>hb.1))) HP.out (by have:=HL1.out;have:=HL2.out;have:=HL5.out;have:=HL6.out;first|omega|(simp only [List.length_tail] at *;omega)))
   | true =>
    have HIi:=zh hi
    clear hi
    go_wp2_with fail
    refine (zBa HR2x.out.st HIi.out (by decide)).mono ?_
    rintro e w3 ⟨rfl,hs,hk⟩
    have HR3:=zh (HR2x.out.call hk hs)
    have hzR3:=HR3.out.size
    have HB3:=zh (HB2x.out.kp hk (by omega))
    have hzHB3:=HB3.out.lt
    have HN3:=zh (HN2x.out.kp hk (by first|omega|(have:=HR0.out.size;simp at *;omega)))
    have hzHN3:=HN3.out.lt
    clear hs hk
    have HFI:=zh (show zdd l2=_ by unfold zdd;exact zya HIi.out _ _)
    go_wp2_with fail
    refine AnyE.zHb (S:=fun W=>Blk W (w1.heap.size) (zaa (T.mk 1 a1 0 pl ([]++[a2])) (.slice sa2x sn2x sc2x)) 25) (by kernel_rfl) (HN3.out.blk.drew) (fun hS=>?_)
    refine AnyE.take (i:=0) (v:=.pointer (some ⟨w1.heap.size,4,none⟩)) rfl (by kernel_rfl) (by kernel_rfl) (by kernel_rfl) (by kernel_rfl) (fun _ _ _ h=>h) (Or.inl ⟨by rfl,fun W _=>by go_simp⟩) hS ?_
    refine AnyE.take (i:=1) (v:=.slice sa2x sn2x sc2x) rfl (by kernel_rfl) (by kernel_rfl) (by kernel_rfl) (by kernel_rfl) (fun _ _ _ h=>h) (Or.inl ⟨by rfl,fun W hW=>by have hcx:W.cell? ⟨w1.heap.size,4,none⟩=some (.slice sa2x sn2x sc2x):=hW.cell 4;go_simp⟩) hS ?_
    refine AnyE.take (i:=2) (v:=.pointer (some ⟨E.pb,0,none⟩)) rfl (by kernel_rfl) (by kernel_rfl) (by kernel_rfl) (by kernel_rfl) (fun _ _ _ h=>h) (Or.inl ⟨by rfl,fun W _=>by go_simp⟩) hS ?_
    refine AnyE.take (i:=3) (v:=.pointer (some ⟨E.pb,0,none⟩)) rfl (by kernel_rfl) (by kernel_rfl) (by kernel_rfl) (by kernel_rfl) (fun _ _ _ h=>h) (Or.inl ⟨by rfl,fun W _=>by go_simp⟩) hS ?_
    refine AnyE.take (i:=4) (v:=.func (.func 71) #[.pointer (some ⟨E.pb,0,none⟩)] #[]) rfl (by kernel_rfl) (by kernel_rfl) (by kernel_rfl) (by kernel_rfl) (fun _ _ _ h=>h) (Or.inl ⟨by rfl,fun W _=>by go_simp⟩) hS ?_
    refine AnyE.one (i:=5) (by kernel_rfl) rfl (by rfl) (fun K hK=>?_)
    go_simp
    refine (zXf (HR3.out.drew).st (zmm E d)).mono ?_
    intro e w4 hp
    cases hr:zAd zUb l2.tail with
    | error pc =>
     obtain ⟨p,c⟩:=pc
     obtain ⟨rfl,hk,hcd⟩:=hp.err hr
     have HK:=zh ((HR3.out.drew).kp.trans hk)
     have HP:=zh (show zzb pl l=.error (p,c) by unfold zzb;exact ((zia H1.out _)).trans (((zia H2.out _)).trans ((zpa (HFI.out.trans (zpa hr _)) _))))
     clear hr hp hk
     go_wp2
     exact ⟨rfl,Run.err HK.out HP.out hcd⟩
    | ok q =>
     obtain ⟨a4,l4⟩:=q
     obtain ⟨v4,rfl,hv,hs,hl,hk⟩:=hp.ok hr
     have HF4:=zh (zDb.zbf hk (HN3.out.drew) hv.1)
     have HC4:=zh hv.2
     have HR4:=zh ((HR3.out.drew).call hk hs)
     have hzR4:=HR4.out.size
     have HB4:=zh ((HB3.out.drew).kp hk (by omega))
     have hzHB4:=HB4.out.lt
     have HN4:=zh ((HN3.out.drew).kp hk (by first|omega|(have:=HR0.out.size;simp at *;omega)))
     have hzHN4:=HN4.out.lt
     have HL4:=zh hl
     have H4:=zh hr
     clear hr hp hs hl hk hv
     refine hK.out _ _ (fun _=>HN4.out.blk) ?_
     clear hK K
     refine AnyE.one (i:=6) (by kernel_rfl) rfl (by rfl) (fun K hK=>?_)
     refine zvc (.tmp 20) (.tmp 24) rfl I rfl HN4.out.kids rfl HF4.out ⟨by omega,by omega⟩ (by show ([]++[a2]).length+_≤_;simp;have:=HC4.out;omega) ?_
     intro v4x w4x hKx hgx
     obtain ⟨sa4x,sn4x,sc4x,rfl⟩:=hKx.slice
     obtain ⟨h1,h2,h3,hcx,hfx,h6⟩:=zTa HR4.out HB4.out HN4.out hKx hgx
     have HR4x:=zh h1
     have HB4x:=zh h2
     have HN4x:=zh h3
     have HC4x:=zh h6
     clear h1 h2 h3 h6 hKx hgx
     refine hK.out _ _ (fun _=>HC4x.out) ?_
     clear hK K
     refine AnyE.one (i:=7) (by kernel_rfl) rfl (by rfl) (fun K hK=>?_)
     go_simp
     refine hK.out _ _ (fun _=>HC4x.out) ?_
     clear hK K
     refine AnyE.one (i:=8) (by kernel_rfl) rfl (by rfl) (fun K hK=>?_)
     go_simp
     refine hK.out _ _ (fun h=>absurd rfl h) ?_
     clear hK K
     refine AnyE.done (by kernel_rfl) ?_ _
     clear hcx hfx
     generalize w4x.setCell ⟨w1.heap.size,4,none⟩ (.slice sa4x sn4x sc4x)=w4y at HR4x HB4x HN4x ⊢
     have hzHB4y:=HB4x.out.lt
     have hzHN4y:=HN4x.out.lt
     go_wp2_with fail
     refine (zLa HR4x.out.st [bs [125]] (by decide) (by decide) (by simp) rfl rfl).mono ?_
     intro e w5 hp
     cases hr:zxa [bs [125]] l4 with
     | error pc =>
      obtain ⟨p,c⟩:=pc
      obtain ⟨rfl,hk,hcd⟩:=hp.err hr
      have HK:=zh (HR4x.out.kp.trans hk)
      have HP:=zh (show zzb pl l=.error (p,c) by unfold zzb;exact ((zia H1.out _)).trans (((zia H2.out _)).trans ((zpa (HFI.out.trans ((zia H4.out _).trans (zpa hr _))) _))))
      clear hr hp hk
      go_wp2
      exact ⟨rfl,Run.err HK.out HP.out hcd⟩
     | ok q =>
      obtain ⟨a5,l5⟩:=q
      obtain ⟨v5,rfl,hv,hs,hl,hk⟩:=hp.ok hr
      obtain ⟨rfl,hto⟩:=hv
      have HR5:=zh (HR4x.out.call hk hs)
      have hzR5:=HR5.out.size
      have HB5:=zh (HB4x.out.kp hk (by omega))
      have hzHB5:=HB5.out.lt
      have HN5:=zh (HN4x.out.kp hk (by first|omega|(have:=HR0.out.size;simp at *;omega)))
      have hzHN5:=HN5.out.lt
      have HL5:=zh hl
      have H5:=zh hr
      clear hr hp hs hl hk hto
      unfold zsb
      have HFJ:=zh (HFI.out.trans ((zia H4.out _).trans (zia H5.out _)))
      cases hw:isT (hdT l5) (bs [119,104,101,114,101]) with
      | false =>
       have HIw:=zh hw
       clear hw
       go_wp2_with fail
       refine (zFa HR5.out.st HIw.out).mono ?_
       rintro e w6 ⟨rfl,hb⟩
       have HR6:=zh (HR5.out.below hb)
       have hzR6:=HR6.out.size
       have HB6:=zh (HB5.out.kp (Kp.of_below (pb:=E.pb) hb) (by omega))
       have hzHB6:=HB6.out.lt
       have HN6:=zh (HN5.out.kp (Kp.of_below (pb:=E.pb) hb) (by first|omega|(have:=HR0.out.size;simp at *;omega)))
       have hzHN6:=HN6.out.lt
       clear hb
       have HFA:=zh (show zXc l5=.ok ([],l5) by unfold zXc;exact zja HIw.out _ _)
       go_wp2_with fail
       refine (zLa HR6.out.st [bs [59]] (by decide) (by decide) (by simp) rfl rfl).mono ?_
       intro e w7 hp
       cases hr:zxa [bs [59]] l5 with
       | error pc =>
        obtain ⟨p,c⟩:=pc
        obtain ⟨rfl,hk,hcd⟩:=hp.err hr
        have HK:=zh (HR6.out.kp.trans hk)
        have HP:=zh (show zzb pl l=.error (p,c) by unfold zzb;exact ((zia H1.out _)).trans (((zia H2.out _)).trans (((zia HFJ.out _)).trans (((zia HFA.out _)).trans ((zpa hr _))))))
        clear hr hp hk
        go_wp2
        exact ⟨rfl,Run.err HK.out HP.out hcd⟩
       | ok q =>
        obtain ⟨a7,l7⟩:=q
        obtain ⟨v7,rfl,hv,hs,hl,hk⟩:=hp.ok hr
        obtain ⟨rfl,hto⟩:=hv
        have HR7:=zh (HR6.out.call hk hs)
        have hzR7:=HR7.out.size
        have HB7:=zh (HB6.out.kp hk (by omega))
        have hzHB7:=HB7.out.lt
        have HN7:=zh (HN6.out.kp hk (by first|omega|(have:=HR0.out.size;simp at *;omega)))
        have hzHN7:=HN7.out.lt
        have HL7:=zh hl
        have H7:=zh hr
        clear hr hp hs hl hk hto
        unfold zsb
        have HP:=zh (show zzb pl l=.ok (T.mk 1 a1 0 pl ([]++[a2]++a4),l7) by unfold zzb;rw [show ([]++[a2]++a4)=(a2 :: (a4++[])) by simp];exact ((zia H1.out _)).trans (((zia H2.out _)).trans (((zia HFJ.out _)).trans (((zia HFA.out _)).trans ((zia H7.out _))))))
        go_wp2_with (first|((with_reducible refine zva 25 (.tmp 5) ?_);refine zfa rfl 25 (.tmp 5) rfl (w1.heap.size) (zaa (T.mk 1 a1 0 pl ([]++[a2]++a4)) (.slice sa4x sn4x sc4x)) rfl HN7.out.blk Tryd.underlying25 rfl Tryd.zca ?_)|((with_reducible refine zra 25 (.tmp 4) ?_);refine zea rfl 25 (.tmp 4) (.tmp 43) rfl w.heap.size (zaa (T.mk 1 a1 0 pl ([]++[a2]++a4)) (.slice sa4x sn4x sc4x)) rfl rfl HB7.out Tryd.zca rfl (zda _ _ HN7.out.kids.one) ?_))
        exact zua (cs:=zaa (T.mk 1 a1 0 pl ([]++[a2]++a4)) (.slice sa4x sn4x sc4x)) Tryd.results51 rfl HB7.out Tryd.underlying25 rfl Tryd.zca rfl (Run.node HR7.out (TAt.zoc (HN7.out.kids.mono (fun _ hb _=>hb.1))) HP.out (by have:=HL1.out;have:=HL2.out;have:=HL4.out;have:=HL5.out;have:=HL7.out;first|omega|(simp only [List.length_tail] at *;omega)))
      | true =>
       have HIw:=zh hw
       clear hw
       go_wp2_with fail
       refine (zBa HR5.out.st HIw.out (by decide)).mono ?_
       rintro e w6 ⟨rfl,hs,hk⟩
       have HR6:=zh (HR5.out.call hk hs)
       have hzR6:=HR6.out.size
       have HB6:=zh (HB5.out.kp hk (by omega))
       have hzHB6:=HB6.out.lt
       have HN6:=zh (HN5.out.kp hk (by first|omega|(have:=HR0.out.size;simp at *;omega)))
       have hzHN6:=HN6.out.lt
       clear hs hk
       have HFA:=zh (show zXc l5=_ by unfold zXc;exact zya HIw.out _ _)
       go_wp2_with fail
       refine AnyE.zHb (S:=fun W=>Blk W (w1.heap.size) (zaa (T.mk 1 a1 0 pl ([]++[a2]++a4)) (.slice sa4x sn4x sc4x)) 25) (by kernel_rfl) (HN6.out.blk.drew) (fun hS=>?_)
       refine AnyE.take (i:=0) (v:=.pointer (some ⟨w1.heap.size,4,none⟩)) rfl (by kernel_rfl) (by kernel_rfl) (by kernel_rfl) (by kernel_rfl) (fun _ _ _ h=>h) (Or.inl ⟨by rfl,fun W _=>by go_simp⟩) hS ?_
       refine AnyE.take (i:=1) (v:=.slice sa4x sn4x sc4x) rfl (by kernel_rfl) (by kernel_rfl) (by kernel_rfl) (by kernel_rfl) (fun _ _ _ h=>h) (Or.inl ⟨by rfl,fun W hW=>by have hcx:W.cell? ⟨w1.heap.size,4,none⟩=some (.slice sa4x sn4x sc4x):=hW.cell 4;go_simp⟩) hS ?_
       refine AnyE.take (i:=2) (v:=.pointer (some ⟨E.pb,0,none⟩)) rfl (by kernel_rfl) (by kernel_rfl) (by kernel_rfl) (by kernel_rfl) (fun _ _ _ h=>h) (Or.inl ⟨by rfl,fun W _=>by go_simp⟩) hS ?_
       refine AnyE.take (i:=3) (v:=.pointer (some ⟨E.pb,0,none⟩)) rfl (by kernel_rfl) (by kernel_rfl) (by kernel_rfl) (by kernel_rfl) (fun _ _ _ h=>h) (Or.inl ⟨by rfl,fun W _=>by go_simp⟩) hS ?_
       refine AnyE.take (i:=4) (v:=.func (.func 72) #[.pointer (some ⟨E.pb,0,none⟩)] #[]) rfl (by kernel_rfl) (by kernel_rfl) (by kernel_rfl) (by kernel_rfl) (fun _ _ _ h=>h) (Or.inl ⟨by rfl,fun W _=>by go_simp⟩) hS ?_
       refine AnyE.one (i:=5) (by kernel_rfl) rfl (by rfl) (fun K hK=>?_)
       go_simp
       refine (zXf (HR6.out.drew).st (zyj E d)).mono ?_
       intro e w7 hp
       cases hr:zAd zze l5.tail with
       | error pc =>
        obtain ⟨p,c⟩:=pc
        obtain ⟨rfl,hk,hcd⟩:=hp.err hr
        have HK:=zh ((HR6.out.drew).kp.trans hk)
        have HP:=zh (show zzb pl l=.error (p,c) by unfold zzb;exact ((zia H1.out _)).trans (((zia H2.out _)).trans (((zia HFJ.out _)).trans ((zpa (HFA.out.trans hr) _)))))
        clear hr hp hk
        go_wp2
        exact ⟨rfl,Run.err HK.out HP.out hcd⟩
       | ok q =>
        obtain ⟨a7,l7⟩:=q
        obtain ⟨v7,rfl,hv,hs,hl,hk⟩:=hp.ok hr
        have HF7:=zh (zDb.zbf hk (HN6.out.drew) hv.1)
        have HC7:=zh hv.2
        have HR7:=zh ((HR6.out.drew).call hk hs)
        have hzR7:=HR7.out.size
        have HB7:=zh ((HB6.out.drew).kp hk (by omega))
        have hzHB7:=HB7.out.lt
        have HN7:=zh ((HN6.out.drew).kp hk (by first|omega|(have:=HR0.out.size;simp at *;omega)))
        have hzHN7:=HN7.out.lt
        have HL7:=zh hl
        have H7:=zh hr
        clear hr hp hs hl hk hv
        refine hK.out _ _ (fun _=>HN7.out.blk) ?_
        clear hK K
        refine AnyE.one (i:=6) (by kernel_rfl) rfl (by rfl) (fun K hK=>?_)
        refine zvc (.tmp 33) (.tmp 37) rfl I rfl HN7.out.kids rfl HF7.out ⟨by omega,by omega⟩ (by have:=HC4.out;show (([]++[a2]++a4)).length+_≤_;simp;have:=HC7.out;omega) ?_
        intro v7x w7x hKx hgx
        obtain ⟨sa7x,sn7x,sc7x,rfl⟩:=hKx.slice
        obtain ⟨h1,h2,h3,hcx,hfx,h6⟩:=zTa HR7.out HB7.out HN7.out hKx hgx
        have HR7x:=zh h1
        have HB7x:=zh h2
        have HN7x:=zh h3
        have HC7x:=zh h6
        clear h1 h2 h3 h6 hKx hgx
        refine hK.out _ _ (fun _=>HC7x.out) ?_
        clear hK K
        refine AnyE.one (i:=7) (by kernel_rfl) rfl (by rfl) (fun K hK=>?_)
        go_simp
        refine hK.out _ _ (fun _=>HC7x.out) ?_
        clear hK K
        refine AnyE.one (i:=8) (by kernel_rfl) rfl (by rfl) (fun K hK=>?_)
        go_simp
        refine hK.out _ _ (fun h=>absurd rfl h) ?_
        clear hK K
        refine AnyE.done (by kernel_rfl) ?_ _
        clear hcx hfx
        generalize w7x.setCell ⟨w1.heap.size,4,none⟩ (.slice sa7x sn7x sc7x)=w7y at HR7x HB7x HN7x ⊢
        have hzHB7y:=HB7x.out.lt
        have hzHN7y:=HN7x.out.lt
        go_wp2_with fail
        refine (zLa HR7x.out.st [bs [59]] (by decide) (by decide) (by simp) rfl rfl).mono ?_
        intro e w8 hp
        cases hr:zxa [bs [59]] l7 with
        | error pc =>
         obtain ⟨p,c⟩:=pc
         obtain ⟨rfl,hk,hcd⟩:=hp.err hr
         have HK:=zh (HR7x.out.kp.trans hk)
         have HP:=zh (show zzb pl l=.error (p,c) by unfold zzb;exact ((zia H1.out _)).trans (((zia H2.out _)).trans (((zia HFJ.out _)).trans (((zia (HFA.out.trans H7.out) _)).trans ((zpa hr _))))))
         clear hr hp hk
         go_wp2
         exact ⟨rfl,Run.err HK.out HP.out hcd⟩
        | ok q =>
         obtain ⟨a8,l8⟩:=q
         obtain ⟨v8,rfl,hv,hs,hl,hk⟩:=hp.ok hr
         obtain ⟨rfl,hto⟩:=hv
         have HR8:=zh (HR7x.out.call hk hs)
         have hzR8:=HR8.out.size
         have HB8:=zh (HB7x.out.kp hk (by omega))
         have hzHB8:=HB8.out.lt
         have HN8:=zh (HN7x.out.kp hk (by first|omega|(have:=HR0.out.size;simp at *;omega)))
         have hzHN8:=HN8.out.lt
         have HL8:=zh hl
         have H8:=zh hr
         clear hr hp hs hl hk hto
         unfold zsb
         have HP:=zh (show zzb pl l=.ok (T.mk 1 a1 0 pl (([]++[a2]++a4)++a7),l8) by unfold zzb;rw [show (([]++[a2]++a4)++a7)=(a2 :: (a4++a7)) by simp];exact ((zia H1.out _)).trans (((zia H2.out _)).trans (((zia HFJ.out _)).trans (((zia (HFA.out.trans H7.out) _)).trans ((zia H8.out _))))))
         go_wp2_with (first|((with_reducible refine zva 25 (.tmp 5) ?_);refine zfa rfl 25 (.tmp 5) rfl (w1.heap.size) (zaa (T.mk 1 a1 0 pl (([]++[a2]++a4)++a7)) (.slice sa7x sn7x sc7x)) rfl HN8.out.blk Tryd.underlying25 rfl Tryd.zca ?_)|((with_reducible refine zra 25 (.tmp 4) ?_);refine zea rfl 25 (.tmp 4) (.tmp 43) rfl w.heap.size (zaa (T.mk 1 a1 0 pl (([]++[a2]++a4)++a7)) (.slice sa7x sn7x sc7x)) rfl rfl HB8.out Tryd.zca rfl (zda _ _ HN8.out.kids.one) ?_))
         exact zua (cs:=zaa (T.mk 1 a1 0 pl (([]++[a2]++a4)++a7)) (.slice sa7x sn7x sc7x)) Tryd.results51 rfl HB8.out Tryd.underlying25 rfl Tryd.zca rfl (Run.node HR8.out (TAt.zoc (HN8.out.kids.mono (fun _ hb _=>hb.1))) HP.out (by have:=HL1.out;have:=HL2.out;have:=HL4.out;have:=HL5.out;have:=HL7.out;have:=HL8.out;first|omega|(simp only [List.length_tail] at *;omega)))
end Go.Proofs.YtdhmdfhnkppnmaaDoor
