/- The layout in memory: its cell with the list of instructions, what its methods may change, and what stays. Nothing of the program is walked here. The contracts of the layout's methods next and put. Plain facts on the account of layer 7: how many instructions a whole tree has, where its jumps go, that its first ones stand in the order of its statements. Nothing of the program is walked here. -/
import Derived.Test.YthdbmgijpelecaaGreatDoorM13
import Derived.Test.YthdbmgijpelecaaGreatDoorM12
import Derived.Test.YthdbmgijpelecaaGreatDoorM14
namespace Go.Proofs.YthdbmgijpelecaaGreatDoor
set_option maxRecDepth 100000
set_option maxHeartbeats 2000000
section
open Go.RowKit
structure LKp (pb:Nat) (row:Option Nat) (w w':World):Prop where
 os:w'.os=w.os
 tape:w'.tape=w.tape
 output:w'.output=w.output
 size:w.heap.size≤w'.heap.size
 block:∀ k,k<w.heap.size→k≠pb→row≠some k→w'.heap[k]?=w.heap[k]?
structure Lay (pb:Nat) (w:World) (v:Value) (is:List Ins) (W:World) (V:Value):Prop where
 kp:LKp pb v.ownBlock w W
 blk:Blk W pb [V] 110
 ins:zGb W is (fun b=>pb<b) V
 row:V.ownBlock=v.ownBlock∨∀ k,V.ownBlock=some k→w.heap.size≤k
 lo:pb<w.heap.size
 vlo:∀ k,v.ownBlock=some k→pb<k∧k<w.heap.size
theorem zGb.zbe {w:World} {is:List Ins} {S:Nat→Prop} {v:Value} (h:zGb w is S v) {k:Nat} (hk:v.ownBlock=some k):S k∧k<w.heap.size:=by
 obtain ⟨_,ho,hS,_⟩:=h
 exact ⟨hS k hk,(ho.lt k hk).2⟩
section
variable {pb:Nat} {w W W':World} {v V V':Value} {is is':List Ins}
theorem Lay.start (hb:Blk w pb [v] 110) (hi:zGb w is (fun b=>pb<b) v):Lay pb w v is w v :=
 ⟨⟨rfl,rfl,rfl,Nat.le_refl _,fun _ _ _ _=>rfl⟩,hb,hi,.inl rfl,hb.lt,fun _ hk=>hi.zbe hk⟩
theorem Lay.trans (h:Lay pb w v is W V) (h':Lay pb W V is' W' V'):Lay pb w v is' W' V':=by
 refine ⟨⟨h'.kp.os.trans h.kp.os,h'.kp.tape.trans h.kp.tape,h'.kp.output.trans h.kp.output,Nat.le_trans h.kp.size h'.kp.size,fun k hk hn hr=>?_⟩,h'.blk,h'.ins,?_,h.lo,h.vlo⟩
 ·refine (h'.kp.block k (Nat.lt_of_lt_of_le hk h.kp.size) hn fun hV=>?_).trans (h.kp.block k hk hn hr)
  rcases h.row with hq|hq
  ·exact hr (hq▸hV)
  ·have:=hq k hV;omega
 ·rcases h'.row with hq|hq
  ·rcases h.row with hp|hp
   ·exact .inl (hq.trans hp)
   ·exact .inr fun k hk=>hp k (hq▸hk)
  ·exact .inr fun k hk=>Nat.le_trans h.kp.size (hq k hk)
theorem Lay.stays (h:Lay pb w v is W V) {g:Nat} {cs:List Value} {t:TypeId} (hb:Blk w g cs t) (hn:g≠pb) (hv:v.ownBlock≠some g):Blk W g cs t:=(h.kp.block g hb.lt hn hv).trans hb
theorem Lay.kat (h:Lay pb w v is W V) {e:TypeId} {ks:List T} {kv:Value} (hk:KAt e w ks (fun b=>b<pb) kv):KAt e W ks (fun b=>b<pb) kv :=
 hk.keep fun b hb hl=>⟨hb,h.kp.block b hl (by omega) fun hq=>by have:=h.vlo b hq;omega⟩
theorem LKp.of_below {row:Option Nat} (h:Below w.heap.size w W):LKp pb row w W:=⟨h.os,h.tape,h.output,h.size,fun k hk _ _=>h.block k hk⟩
theorem Lay.below (h:Lay pb w v is W V) (hb:Below W.heap.size W W'):Lay pb w v is W' V :=
 h.trans ⟨.of_below hb,h.blk.stays hb,h.ins.below hb,.inl rfl,h.blk.lt,fun _ hk=>h.ins.zbe hk⟩
theorem Lay.back {w0:World} (h:Lay pb w v is W V) (hb:Below w0.heap.size w0 w) (hlo:pb<w0.heap.size) (hv:∀ k,v.ownBlock=some k→k<w0.heap.size):Lay pb w0 v is W V :=
 ⟨⟨h.kp.os.trans hb.os,h.kp.tape.trans hb.tape,h.kp.output.trans hb.output,Nat.le_trans hb.size h.kp.size,fun k hk hn hr=>(h.kp.block k (Nat.lt_of_lt_of_le hk hb.size) hn hr).trans (hb.block k hk)⟩,
  h.blk,h.ins,h.row.imp id fun hq k hk=>Nat.le_trans hb.size (hq k hk),hlo,fun k hk=>⟨(h.vlo k hk).1,hv k hk⟩⟩
end
theorem Lay.appended {pb:Nat} {w W:World} {v V:Value} {is:List Ins} {j:Ins} (hb:Blk w pb [v] 110) (hi:zGb w is (fun b=>pb<b) v) (hI:zGb W (is++[j]) (fun b=>pb<b) V) (hg:w.grownBy W v.ownBlock) (ho:V.ownBlock=v.ownBlock∨V.ownBlock=some w.heap.size) :
  Lay pb w v (is++[j]) (W.setCell ⟨pb,0,none⟩ V) V:=by
 have hpv:some pb≠v.ownBlock:=fun e=>by have:=(hi.zbe e.symm).1;omega
 have hB:Blk W pb [v] 110:=(hg.block pb hb.lt hpv).trans hb
 refine ⟨⟨hg.os,hg.tape,hg.output,by simpa [World.setCell] using hg.size,fun k hk hn hr=>?_⟩,hB.zxa 0 V,hI.setCell _ _ (fun b hb=>by show b≠pb;omega),?_,hb.lt,fun k hk=>hi.zbe hk⟩
 ·exact (Below.heap_setCell _ _ _ _ hn).trans (hg.block k hk (Ne.symm hr))
 ·rcases ho with h|h
  ·exact .inl h
  ·exact .inr fun k hk=>by rw [h] at hk;cases hk;exact Nat.le_refl _
theorem zGb.znf {w:World} {is:List Ins} {S:Nat→Prop} {a:Addr} {n c k:Nat} {i:Ins} (h:zGb w is S (.slice (some a) n c)) (hk:is[k]?=some i) (to:Nat) :
  ∃ g,a=⟨g,0,none⟩∧(w.cell? ⟨g,k * 11+9,none⟩=some (.int .i64 i.to)∧w.frozen? ⟨g,k * 11+9,none⟩=false)∧zGb (w.setCell ⟨g,k * 11+9,none⟩ (.int .i64 to)) (is.set k (i.znf to)) S (.slice (some a) n c):=by
 obtain ⟨vs,ho,hS,ha⟩:=h
 have hlt:k<is.length:=(List.getElem?_eq_some_iff.1 hk).1
 obtain ⟨u,hu,_⟩:=ha.get hk
 rcases ho.2 with ⟨hn,_⟩|⟨g,cap,cur,hv,hb,hg,hnc,hcm,hcs,htake⟩
 ·cases hn
 ·simp only [Value.slice.injEq,Option.some.injEq] at hv
  obtain ⟨rfl,rfl,rfl⟩:=hv
  refine ⟨g,rfl,⟨?_,ho.frozenAt _⟩,vs,?_,hS,?_⟩
  ·rw [ho.cellAt (k * 11+9) (by omega),zdg is vs k i u 9 hk hu (by omega)]
   rfl
  ·rw [List.length_set,← zBh is vs k i to ha.length hk]
   exact (ho.stored (k * 11+9) (.int .i64 to)).1
  ·exact zNb.keep _ (ha.znf hk) fun b hb _=>⟨hb,Below.heap_setCell _ _ _ _ (fun e=>hb.2 (by rw [e];rfl))⟩
theorem Lay.znf {pb:Nat} {w W:World} {v:Value} {is:List Ins} {a:Addr} {n c k:Nat} {i:Ins} (h:Lay pb w v is W (.slice (some a) n c)) (hk:is[k]?=some i) (to:Nat) :
  ∃ g,a=⟨g,0,none⟩∧(W.cell? ⟨g,k * 11+9,none⟩=some (.int .i64 i.to)∧W.frozen? ⟨g,k * 11+9,none⟩=false)∧(pb<g∧g<W.heap.size)∧Lay pb w v (is.set k (i.znf to)) (W.setCell ⟨g,k * 11+9,none⟩ (.int .i64 to)) (.slice (some a) n c):=by
 obtain ⟨g,rfl,hc,hi⟩:=h.ins.znf hk to
 have hg:=h.ins.zbe (k:=g) rfl
 have hg1:pb<g:=hg.1
 refine ⟨g,rfl,hc,hg,h.trans ⟨⟨rfl,rfl,rfl,by simp [World.setCell],fun b _ _ hr=>Below.heap_setCell _ _ _ _ (fun e=>hr (by rw [e];rfl))⟩,h.blk.setOther _ _ (by show pb≠g;omega),hi,.inl rfl,h.blk.lt,fun _ hk=>h.ins.zbe hk⟩⟩
end
section
open Go.RowKit
theorem AnyE.zyh {P:Program} {ops:Array Oper} {Q:Exit→Act→World→Prop} {S:World→Prop} {id:Nat} {a:Act} {w W0:World} (hw:w.drew=W0) (hm:P.follows .mixedOrders=true) (hS:S W0) (h:S W0→AnyE P .any ops Q S ops.size (Array.replicate ops.size false) a W0):(Code.region id ops true).wp P Q a w :=
 AnyE.begin hm (by rw [hw];exact h hS)
theorem Tryz.zGs:∃ i z,zAe Tryz.prog 45 101 11 136 i z:=by
 have h:(Tryz.prog.info? 101).map (fun i=>(i.zero,i.size,i.bytes))=some (some (.agg (zea zcd (.slice none 0 0)).toArray),11,136):=by kernel_rfl
 obtain ⟨i0,hi,hz0,hz1,hz2⟩:=info_parts h
 exact ⟨i0,_,Tryz.underlying45,hi,hz0,hz1,hz2,rfl⟩
theorem next_any {w:World} {pb n c:Nat} {va:Option Addr} (hb:Blk w pb [.slice va n c] 110) :
  Calls Tryz.prog 84 #[.pointer (some ⟨pb,0,none⟩)] w fun e w'=>e=.returned (.int .i64 n)∧w'=w:=by
 have hp:=hb.lt
 have hc0:=hb.cell 0
 simp only [List.getElem?_cons_zero] at hc0
 clear hb
 go_enter Tryz.func84,Tryz.ntmps84
 go_wp2_with fail
 go_ret
 exact ⟨rfl,rfl⟩
theorem put_any {w:World} {pb:Nat} {v u:Value} {is:List Ins} {j:Ins} (hb:Blk w pb [v] 110) (hi:zGb w is (fun b=>pb<b) v) (hu:zWa w j.args (fun b=>pb<b∧v.ownBlock≠some b) u) (hl:is.length≤90000) :
  Calls Tryz.prog 45 #[.pointer (some ⟨pb,0,none⟩),zmo j u] w fun e w'=>e=.returned (.int .i64 is.length)∧∃ V,Lay pb w v (is++[j]) w' V:=by
 obtain ⟨i0,z0,I⟩:=Tryz.zGs
 obtain ⟨va,vc,rfl⟩:=hi.slice
 obtain ⟨ua,un,uc,rfl⟩:=hu.slice
 have hp:=hb.lt
 have hv:∀ k,(Value.slice va is.length vc).ownBlock=some k→k<w.heap.size:=fun k hk=>(hi.zbe hk).2
 obtain ⟨W0,hW0,HB,HI,HU,HJ,HW,HZ⟩:∃ W0:World,(w.alloc (.cells (zea j (.slice ua un uc)).toArray 101)).drew=W0∧Hid (Blk W0 pb [.slice va is.length vc] 110)∧Hid (zGb W0 is (fun b=>pb<b) (.slice va is.length vc))∧Hid (zWa W0 j.args (fun b=>pb<b∧(Value.slice va is.length vc).ownBlock≠some b) (.slice ua un uc))∧Hid (Blk W0 w.heap.size (zea j (.slice ua un uc)) 101)∧Hid (Below w.heap.size w W0)∧Hid (W0.heap.size=w.heap.size+1) :=
  ⟨_,rfl,zh (hb.alloc _).drew,zh (hi.alloc _).drew,zh (hu.alloc _).drew,zh (Blk.new w _ _).drew,zh ((Below.refl _ _).alloc (Nat.le_refl _) _).drew,zh (by simp [World.drew])⟩
 have HV:=zh hv
 clear hb hi hu hv
 unfold zmo
 go_enter Tryz.func45,Tryz.ntmps45
 go_wp2_with fail
 refine AnyE.zyh (S:=fun W=>Blk W pb [.slice va is.length vc] 110∧Blk W w.heap.size (zea j (.slice ua un uc)) 101) hW0 (by kernel_rfl) ⟨HB.out,HJ.out⟩ (fun hS=>?_)
 clear hW0
 refine AnyE.take (i:=0) (v:=.pointer (some ⟨pb,0,none⟩)) rfl (by kernel_rfl) (by kernel_rfl) (by kernel_rfl) (by kernel_rfl) (fun _ _ _ h=>h) (Or.inl ⟨by rfl,fun W _=>by go_simp⟩) hS ?_
 refine AnyE.take (i:=1) (v:=.pointer (some ⟨pb,0,none⟩)) rfl (by kernel_rfl) (by kernel_rfl) (by kernel_rfl) (by kernel_rfl) (fun _ _ _ h=>h) (Or.inl ⟨by rfl,fun W _=>by go_simp⟩) hS ?_
 refine AnyE.take (i:=2) (v:=.pointer (some ⟨pb,0,none⟩)) rfl (by kernel_rfl) (by kernel_rfl) (by kernel_rfl) (by kernel_rfl) (fun _ _ _ h=>h) (Or.inl ⟨by rfl,fun W _=>by go_simp⟩) hS ?_
 refine AnyE.take (i:=3) (v:=.pointer (some ⟨pb,0,none⟩)) rfl (by kernel_rfl) (by kernel_rfl) (by kernel_rfl) (by kernel_rfl) (fun _ _ _ h=>h) (Or.inl ⟨by rfl,fun W _=>by go_simp⟩) hS ?_
 refine AnyE.take (i:=4) (v:=.slice va is.length vc) rfl (by kernel_rfl) (by kernel_rfl) (by kernel_rfl) (by kernel_rfl) (fun _ _ _ h=>h) (Or.inl ⟨by rfl,fun W hW=>by have hcx:W.cell? ⟨pb,0,none⟩=some (.slice va is.length vc):=hW.1.cell 0;go_simp⟩) hS ?_
 refine AnyE.take (i:=5) (v:=.agg #[.int .i64 j.op,.int .i64 j.place,.string j.x,.string j.y,.string j.a.name,.int .i64 j.a.num,.string j.b.name,.int .i64 j.b.num,.slice ua un uc,.int .i64 j.to,.bool j.has]) rfl (by kernel_rfl) (by kernel_rfl) (by kernel_rfl) (by kernel_rfl) (fun _ _ _ h=>h) (yieldsIf_load_mid (cs:=zea j (.slice ua un uc)) (by rfl) 101 (.tmp 3) rfl (w.heap.size) 0 rfl _ (fun W hW j v hj=>by rw [Nat.zero_add,hW.2.cell j];exact hj) Tryz.underlying101 rfl Tryz.zza) hS ?_
 refine AnyE.one (i:=6) (by kernel_rfl) rfl (by rfl) (fun K hK=>?_)
 go_simp
 have hne:pb≠W0.heap.size:=by have:=HZ.out;omega
 refine hK.out _ _ (fun _=>⟨HB.out.alloc _,HJ.out.alloc _⟩) ?_
 clear hK K
 refine AnyE.one (i:=7) (by kernel_rfl) rfl (by rfl) (fun K hK=>?_)
 refine zfk (.tmp 9) (.tmp 11) rfl I (by omega) rfl (HI.out.alloc _) (HU.out.alloc _) (by show pb<(W0.alloc _).heap.size;have:=HZ.out;simp;omega) rfl (zht W0 101 j (.slice ua un uc)) (by omega) ?_
 intro V w4 hK4 hg4 ho4
 have hg5:W0.grownBy w4 (Value.slice va is.length vc).ownBlock:=⟨hg4.os,hg4.tape,hg4.output,Nat.le_trans (by simp) hg4.size,fun k hk hn=>(hg4.block k (by have:=HZ.out;simp;omega) hn).trans (Below.heap_alloc W0 _ k hk)⟩
 obtain ⟨sa,sc,hV⟩:=hK4.slice
 rw [show (is++[j]).length=is.length+1 by simp] at hV
 subst hV
 have hpv:some pb≠(Value.slice va is.length vc).ownBlock:=fun e=>by have:=(HI.out.zbe e.symm).1;omega
 have hwv:some w.heap.size≠(Value.slice va is.length vc).ownBlock:=fun e=>by have:=HV.out _ e.symm;omega
 have hB4:=HB.out.grown hg5 hpv
 have hJ4:=HJ.out.grown hg5 hwv
 have HL:=zh (Lay.appended (HB.out.alloc (.cells (zea j (.slice ua un uc)).toArray 101)) (HI.out.alloc _) hK4 hg4 ho4)
 have HL0:=zh (show Below w.heap.size w (W0.alloc (.cells (zea j (.slice ua un uc)).toArray 101)) from HW.out.alloc (by have:=HZ.out;omega) _)
 have hcx:w4.cell? ⟨pb,0,none⟩=some (.slice va is.length vc):=hB4.cell 0
 have hfx:=hB4.frozen 0
 have HB4:=zh hB4
 have HJ4:=zh hJ4
 clear hK4 hg4 hg5 ho4 hB4 hJ4
 refine hK.out _ _ (fun _=>⟨HB4.out,HJ4.out⟩) ?_
 clear hK K
 refine AnyE.one (i:=8) (by kernel_rfl) rfl (by rfl) (fun K hK=>?_)
 go_simp
 refine hK.out _ _ (fun _=>⟨HB4.out,HJ4.out⟩) ?_
 clear hK K
 refine AnyE.one (i:=9) (by kernel_rfl) rfl (by rfl) (fun K hK=>?_)
 go_simp
 refine hK.out _ _ (fun _=>⟨HB4.out,HJ4.out⟩) ?_
 clear hK K
 refine AnyE.one (i:=10) (by kernel_rfl) rfl (by rfl) (fun K hK=>?_)
 go_simp
 refine hK.out _ _ (fun h=>absurd rfl h) ?_
 clear hK K
 refine AnyE.done (by kernel_rfl) ?_ _
 have HE:=zh (HL.out.back HL0.out hp HV.out)
 clear hcx hfx HL0
 go_wp2_with fail
 refine (next_any (n:=is.length+1) (c:=sc) (va:=sa) HL.out.blk).mono ?_
 rintro e w5 ⟨rfl,rfl⟩
 clear HL
 go_wp2_with fail
 go_ret
 refine ⟨by go_num,_,HE.out⟩
end
section
open Go.RowKit
mutual
def T.count:T→Nat
 | .mk k _ _ _ ks=>(bif k == 15 || k == 16 then 2 else bif decide (10≤k) && decide (k≤20) then 1 else 0)+counts ks
def counts:List T→Nat
 | []=>0
 | t :: ts=>t.count+counts ts
end
def zre (k:Int):Nat:=bif k == 15 || k == 16 then 2 else bif decide (10≤k) && decide (k≤20) then 1 else 0
theorem count_eq (t:T):t.count=zre t.kind+counts t.kids:=by cases t;rw [T.count];rfl
theorem zAb:counts []=0:=by rw [counts]
theorem zdb (t:T) (ts:List T):counts (t :: ts)=t.count+counts ts:=by rw [counts]
theorem zWg:∀ a b:List T,counts (a++b)=counts a+counts b
 | [],b=>by simp [zAb]
 | t :: ts,b=>by rw [List.cons_append,zdb,zdb,zWg ts b];omega
theorem zid {k:Int} (h:k<10∨20<k):zre k=0:=by
 unfold zre
 have h1:(k == 15)=false:=by simp;omega
 have h2:(k == 16)=false:=by simp;omega
 have h3:(decide (10≤k) && decide (k≤20))=false:=by simp;omega
 rw [h1,h2,h3];rfl
theorem zHe {t:T} (h:t.whole) (hk:t.kind=5):t.count=0∧t.kids=[]:=by
 rw [count_eq,zid (by omega)]
 have h1:=(zFe.1 h).1
 rw [hk] at h1
 generalize t.kids=ks at *
 cases h1 with
 | leaf _=>exact ⟨zAb,rfl⟩
 | unit e|type e|none e|one e|two e|fn e|param e|block e|set e|cond e|loop e|call1 e|load e|call e=>omega
theorem zQc:∀ {ts:List T},zYb ts→zjb (·=5) ts→counts ts=0
 | [],_,_=>zAb
 | t :: ts,h,hk=>by
  rw [zdb,(zHe (zHa.1 h).1 (hk t (by simp))).1,zQc (zHa.1 h).2 fun u hu=>hk u (by simp [hu])]
theorem zmg {t:T} (h:t.whole) (hk:t.kind=2∨t.kind=3∨t.kind=4∨t.kind=8∨(21≤t.kind∧t.kind≤28)):t.count=0:=by
 rw [count_eq,zid (by omega)]
 obtain ⟨h1,hw⟩:=zFe.1 h
 generalize t.kids=ks at *
 generalize t.kind=k at *
 cases h1 with
 | none _=>exact zAb
 | leaf _=>exact zAb
 | one _ ha=>rw [zQc hw (.cons ha .nil)]
 | two _ ha hb=>rw [zQc hw (.cons ha (.cons hb .nil))]
 | load _ ha=>rw [zQc hw (.cons ha .nil)]
 | call _ ha=>rw [zQc hw ha]
 | unit e|type e|fn e|param e|block e|set e|cond e|loop e|call1 e=>omega
theorem zho {t:T} (h:t.whole) (hk:zEc t.kind):t.count=0:=by
 rcases hk with hk|hk
 ·exact (zHe h hk).1
 ·exact zmg h (by omega)
theorem zPl {t:T} (h:t.whole) (hk:t.kind=7):t.count=0:=by
 rw [count_eq,zid (by omega)]
 obtain ⟨h1,hw⟩:=zFe.1 h
 rw [hk] at h1
 generalize t.kids=ks at *
 cases h1 with
 | param _ ha=>rw [zdb,zAb,zmg (zHa.1 hw).1 (by omega)]
 | unit e|type e|none e|one e|two e|fn e|block e|set e|cond e|loop e|call1 e|load e|call e|leaf e=>omega
theorem zdh:∀ {ts:List T},zYb ts→zjb (·=7) ts→counts ts=0
 | [],_,_=>zAb
 | t :: ts,h,hk=>by
  rw [zdb,zPl (zHa.1 h).1 (hk t (by simp)),zdh (zHa.1 h).2 fun u hu=>hk u (by simp [hu])]
theorem zHg {t:T} (h:t.whole) (hk:zZa t.kind) :
  (t.kind=15∧∃ a b c d,t.kids=[a,b,c,d]∧(a.kind=5∧b.kind=5)∧(c.kind=9∧d.kind=9)∧(a.whole∧b.whole)∧c.whole∧d.whole) ∨
  (t.kind=16∧∃ a b c,t.kids=[a,b,c]∧(a.kind=5∧b.kind=5)∧c.kind=9∧(a.whole∧b.whole)∧c.whole) ∨
  (t.kind≠15∧t.kind≠16∧counts t.kids=0):=by
 obtain ⟨h1,hw⟩:=zFe.1 h
 unfold zZa at hk
 generalize t.kids=ks at *
 generalize t.kind=k at *
 cases h1 with
 | @cond a b c d e ha hb hc hd =>
  simp only [zHa] at hw
  exact .inl ⟨e,a,b,c,d,rfl,⟨ha,hb⟩,⟨hc,hd⟩,⟨hw.1,hw.2.1⟩,hw.2.2.1,hw.2.2.2.1⟩
 | @loop a b c e ha hb hc =>
  simp only [zHa] at hw
  exact .inr (.inl ⟨e,a,b,c,rfl,⟨ha,hb⟩,hc,⟨hw.1,hw.2.1⟩,hw.2.2.1⟩)
 | two e ha hb=>exact .inr (.inr ⟨by omega,by omega,zQc hw (.cons ha (.cons hb .nil))⟩)
 | set e ha=>exact .inr (.inr ⟨by omega,by omega,by rw [zdb,zAb,zho (zHa.1 hw).1 ha]⟩)
 | none e=>exact .inr (.inr ⟨by omega,by omega,zAb⟩)
 | leaf e=>exact .inr (.inr ⟨by omega,by omega,zAb⟩)
 | one e ha=>exact .inr (.inr ⟨by omega,by omega,zQc hw (.cons ha .nil)⟩)
 | call1 e ha=>exact .inr (.inr ⟨by omega,by omega,by rw [zdb,zAb,zmg (zHa.1 hw).1 (by omega)]⟩)
 | call e ha=>exact .inr (.inr ⟨by omega,by omega,zQc hw ha⟩)
 | unit e|type e|fn e|param e|block e|load e=>omega
theorem zOb {t:T} (h:t.whole) (hk:t.kind=9):zjb zZa t.kids∧zYb t.kids:=by
 obtain ⟨h1,hw⟩:=zFe.1 h
 rw [hk] at h1
 refine ⟨?_,hw⟩
 generalize t.kids=ks at *
 cases h1 with
 | block _ ha=>exact ha
 | unit e|type e|none e|one e|two e|fn e|param e|set e|cond e|loop e|call1 e|load e|call e|leaf e=>omega
def zUr (p:Nat) (i:Ins):Prop:=i.op≠10∧i.op≠11∧i.to=0∧i.place=p
theorem zkd {op:Int} {p:Nat} {x y:ByteArray} {a b:Tm} {args:List Tm} {has:Bool} (h:op≠10∧op≠11):zUr p ⟨op,p,x,y,a,b,args,0,has⟩:=⟨h.1,h.2,rfl,rfl⟩
theorem zto (blk:Nat→List T→List Ins) (c:Nat) {t:T} (hk:zZa t.kind) (h15:t.kind≠15) (h16:t.kind≠16):∃ i,zfe blk c t=[i]∧zUr t.place i:=by
 have e15:(t.kind == 15)=false:=by simp;omega
 have e16:(t.kind == 16)=false:=by simp;omega
 unfold zfe
 rw [e15,e16]
 cases h10:(t.kind == 10) with
 | true =>
  refine ⟨zfd t,rfl,?_⟩
  unfold zfd
  cases (zFa t 0).kind == 5 with
  | true=>exact zkd (by decide)
  | false =>
  cases (zFa t 0).kind == 26 || (zFa t 0).kind == 27 with
  | true=>exact zkd (by decide)
  | false =>
  cases (zFa t 0).kind == 21 with
  | true=>exact zkd (by decide)
  | false =>
  cases (zFa t 0).kind == 22 with
  | true=>exact zkd (by decide)
  | false =>
  cases (zFa t 0).kind == 23 with
  | true=>exact zkd (by decide)
  | false =>
  cases (zFa t 0).kind == 24 with
  | true=>exact zkd (by decide)
  | false =>
  cases (zFa t 0).kind == 25 with
  | true=>exact zkd (by decide)
  | false =>
  cases (zFa t 0).kind == 28 with
  | true=>exact zkd (by decide)
  | false=>exact zkd (by decide)
 | false =>
  unfold zae
  cases h11:(t.kind == 11) with
  | true=>exact ⟨_,rfl,zkd (by decide)⟩
  | false =>
  cases h12:(t.kind == 12) with
  | true=>exact ⟨_,rfl,zkd (by decide)⟩
  | false =>
  cases h13:(t.kind == 13) with
  | true=>exact ⟨_,rfl,zkd (by decide)⟩
  | false =>
  cases h14:(t.kind == 14) with
  | true=>exact ⟨_,rfl,zkd (by decide)⟩
  | false =>
  cases h20:(t.kind == 20) with
  | true=>exact ⟨_,rfl,zkd (by decide)⟩
  | false =>
  cases h19:(t.kind == 19) with
  | true=>exact ⟨_,rfl,zkd (by decide)⟩
  | false =>
  cases h17:(t.kind == 17) with
  | true=>exact ⟨_,rfl,zkd (by decide)⟩
  | false =>
  cases h18:(t.kind == 18) with
  | true=>exact ⟨_,rfl,zkd (by decide)⟩
  | false =>
   exfalso
   simp at h10 h11 h12 h13 h14 h17 h18 h19 h20
   unfold zZa at hk
   omega
theorem zUm (blk:Nat→List T→List Ins) (c:Nat) {t a b x y:T} (hk:t.kind=15) (he:t.kids=[a,b,x,y]) :
  zfe blk c t=zeb t (c+(blk (c+1) x.kids).length+2) :: (blk (c+1) x.kids++zkf t (c+(blk (c+1) x.kids).length+(blk (c+(blk (c+1) x.kids).length+2) y.kids).length+2) :: blk (c+(blk (c+1) x.kids).length+2) y.kids):=by
 have h2:zFa t 2=x:=by unfold zFa;rw [he];rfl
 have h3:zFa t 3=y:=by unfold zFa;rw [he];rfl
 unfold zfe
 rw [hk,h2,h3]
 rfl
theorem zbi (blk:Nat→List T→List Ins) (c:Nat) {t a b x:T} (hk:t.kind=16) (he:t.kids=[a,b,x]) :
  zfe blk c t=zeb t (c+(blk (c+1) x.kids).length+2) :: (blk (c+1) x.kids++[zkf t c]):=by
 have h2:zFa t 2=x:=by unfold zFa;rw [he];rfl
 unfold zfe
 rw [hk,h2]
 rfl
theorem zmb:∀ (n:Nat) (ks:List T),sizes ks≤n→zjb zZa ks→zYb ks→∀ c,(zBa n c ks).length=counts ks
 | 0,ks,hn,_,_,c=>by
  have:ks=[]:=by
   cases ks with
   | nil=>rfl
   | cons t ts=>rw [zoa] at hn;cases t;rw [size_mk] at hn;omega
  subst this
  rw [zAb];rfl
 | n+1,ks,hn,hk,hw,c=>by
  show (zQa (zBa n) c ks).length=_
  induction ks generalizing c with
  | nil=>rw [zAb];rfl
  | cons t ts ih =>
   rw [zoa] at hn
   have hts:t.size=1+sizes t.kids:=by cases t;rw [size_mk];rfl
   have hwt:=zHa.1 hw
   have hkt:zZa t.kind:=hk t (by simp)
   rw [zQa,List.length_append,zdb,ih (by omega) (fun u hu=>hk u (by simp [hu])) hwt.2]
   congr 1
   rw [count_eq]
   rcases zHg hwt.1 hkt with ⟨h15,a,b,x,y,he,hab,hxy,hwab,hx,hy⟩|⟨h16,a,b,x,he,hab,hx9,hwab,hx⟩|⟨h15,h16,h0⟩
   ·have s1:sizes t.kids=a.size+(b.size+(x.size+(y.size+0))):=by rw [he,zoa,zoa,zoa,zoa,zwa]
    have s2:x.size=1+sizes x.kids:=by cases x;rw [size_mk];rfl
    have s3:y.size=1+sizes y.kids:=by cases y;rw [size_mk];rfl
    have hbx:=zOb hx hxy.1
    have hby:=zOb hy hxy.2
    rw [zUm _ _ h15 he,he,zdb,zdb,zdb,zdb,zAb,(zHe hwab.1 hab.1).1,(zHe hwab.2 hab.2).1,count_eq x,count_eq y,zid (k:=x.kind) (by omega),zid (k:=y.kind) (by omega),h15]
    simp only [List.length_cons,List.length_append]
    rw [zmb n x.kids (by omega) hbx.1 hbx.2,zmb n y.kids (by omega) hby.1 hby.2]
    show _=2+_
    omega
   ·have s1:sizes t.kids=a.size+(b.size+(x.size+0)):=by rw [he,zoa,zoa,zoa,zwa]
    have s2:x.size=1+sizes x.kids:=by cases x;rw [size_mk];rfl
    have hbx:=zOb hx hx9
    rw [zbi _ _ h16 he,he,zdb,zdb,zdb,zAb,(zHe hwab.1 hab.1).1,(zHe hwab.2 hab.2).1,count_eq x,zid (k:=x.kind) (by omega),h16]
    simp only [List.length_cons,List.length_append,List.length_nil]
    rw [zmb n x.kids (by omega) hbx.1 hbx.2]
    show _=2+_
    omega
   ·obtain ⟨i,hi,_⟩:=zto (zBa n) c hkt h15 h16
    have e15:(t.kind == 15)=false:=by simp;omega
    have e16:(t.kind == 16)=false:=by simp;omega
    have e1:(decide (10≤t.kind) && decide (t.kind≤20))=true:=by unfold zZa at hkt;simp;omega
    rw [hi,h0]
    unfold zre
    rw [e15,e16,e1]
    rfl
def JOk (c h:Nat) (B:List Ins):Prop:=∀ i x,B[i]?=some x →
 (x.op=10→c+i<x.to∧x.to≤h)∧(x.op=11→x.to≤h∧x.to≠c+i∧(x.to<c+i→c≤x.to∧∃ y,B[x.to-c]?=some y∧y.op=10))∧(x.op≠10→x.op≠11→x.to=0)
theorem JOk.nil {c h:Nat}:JOk c h []:=by intro i x hx;simp at hx
theorem JOk.mono {c h h':Nat} {B:List Ins} (hb:JOk c h B) (hh:h≤h'):JOk c h' B:=fun i x hx=>by
 obtain ⟨h1,h2,h3⟩:=hb i x hx
 exact ⟨fun e=>⟨(h1 e).1,by have:=(h1 e).2;omega⟩,fun e=>⟨by have:=(h2 e).1;omega,(h2 e).2⟩,h3⟩
theorem JOk.append {c h:Nat} {A B:List Ins} (ha:JOk c h A) (hb:JOk (c+A.length) h B):JOk c h (A++B):=by
 intro i x hx
 rcases Nat.lt_or_ge i A.length with hi|hi
 ·rw [List.getElem?_append_left hi] at hx
  obtain ⟨h1,h2,h3⟩:=ha i x hx
  refine ⟨h1,fun e=>⟨(h2 e).1,(h2 e).2.1,fun hlt=>?_⟩,h3⟩
  obtain ⟨h4,y,hy,ho⟩:=(h2 e).2.2 hlt
  exact ⟨h4,y,by rw [List.getElem?_append_left (by omega)];exact hy,ho⟩
 ·rw [List.getElem?_append_right hi] at hx
  obtain ⟨h1,h2,h3⟩:=hb _ x hx
  refine ⟨fun e=>⟨by have:=(h1 e).1;omega,(h1 e).2⟩,fun e=>⟨(h2 e).1,by have:=(h2 e).2.1;omega,fun hlt=>?_⟩,h3⟩
  obtain ⟨h4,y,hy,ho⟩:=(h2 e).2.2 (by omega)
  exact ⟨by omega,y,by rw [List.getElem?_append_right (by omega),show x.to-c-A.length=x.to-(c+A.length) by omega];exact hy,ho⟩
theorem JOk.one {c h:Nat} {x:Ins} (h1:x.op=10→c<x.to∧x.to≤h) (h2:x.op=11→c<x.to∧x.to≤h) (h3:x.op≠10→x.op≠11→x.to=0):JOk c h [x]:=by
 intro i y hy
 cases i with
 | zero =>
  obtain rfl:x=y:=by simpa using hy
  exact ⟨h1,fun e=>⟨(h2 e).2,by have:=(h2 e).1;omega,fun hlt=>by have:=(h2 e).1;omega⟩,h3⟩
 | succ i=>simp at hy
theorem JOk.back {c h:Nat} {x j:Ins} {A:List Ins} (ha:JOk c h (x :: A)) (hx:x.op=10) (hj:j.op=11) (ht:j.to=c) (hc:c≤h):JOk c h (x :: A++[j]):=by
 intro i y hy
 rcases Nat.lt_or_ge i (x :: A).length with hi|hi
 ·rw [List.getElem?_append_left hi] at hy
  obtain ⟨h1,h2,h3⟩:=ha i y hy
  refine ⟨h1,fun e=>⟨(h2 e).1,(h2 e).2.1,fun hlt=>?_⟩,h3⟩
  obtain ⟨h4,z,hz,ho⟩:=(h2 e).2.2 hlt
  exact ⟨h4,z,by rw [List.getElem?_append_left (by omega)];exact hz,ho⟩
 ·rw [List.getElem?_append_right hi] at hy
  have hi0:0<i:=by simp at hi;omega
  cases hq:i-(x :: A).length with
  | zero =>
   rw [hq] at hy
   obtain rfl:j=y:=by simpa using hy
   refine ⟨fun e=>(by omega),fun _=>⟨by omega,by omega,fun _=>⟨by omega,x,?_,hx⟩⟩,fun _ e=>absurd hj e⟩
   rw [ht,Nat.sub_self]
   rfl
  | succ q=>rw [hq] at hy;simp at hy
end
end Go.Proofs.YthdbmgijpelecaaGreatDoor
