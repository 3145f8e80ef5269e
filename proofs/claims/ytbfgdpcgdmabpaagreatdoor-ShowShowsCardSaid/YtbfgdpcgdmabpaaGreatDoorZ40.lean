/- The document's own show on every whole, small tree: it answers the plain account's text. -/
import Derived.Test.YtbfgdpcgdmabpaaGreatDoorZ39
namespace Go.Proofs.YtbfgdpcgdmabpaaGreatDoor
set_option maxRecDepth 100000
open Go.RowKit
theorem zmh {ks:List T} {a:T} (h:a∈ks):a.size≤sizes ks:=by
 obtain ⟨i,hi⟩:=List.mem_iff_getElem?.1 h
 exact zFe hi
theorem zcj:∀ (n:Nat) (t:T),t.size≤n→t.whole→t.small→t.size≤4096→∀ d,d+t.size≤5000→zYb d t
 | 0,t,hz,_,_,_,_,_=>by
  cases t
  rw [size_mk] at hz
  omega
 | n+1,.mk k s nm p ks,hz,hw,hs,h5,d,hd=>by
  rw [size_mk] at hz h5 hd
  have hlen:=zwa ks
  have hkw:=(zxa.1 hw).2
  have hks:=(zEa.1 hs).2
  have hsz:=(zEa.1 hs).1
  have hc:RC d ks:=⟨by omega,by omega,fun d' hd' a ha=>zcj n a (by have:=zmh ha;omega) (zOf hkw ha) (zZf hks ha) (by have:=zmh ha;omega) d' (by have:=zmh ha;omega),fun d' hd'=>by
   have h:=zFi 10000 ks d' hks hkw (by omega)
   have h1:sizes ks * (8 * 10000+200)≤4096 * (8 * 10000+200):=Nat.mul_le_mul_right _ (by omega)
   omega⟩
  have hn:=hsz.2
  have h16:s.size≤140737488351232:=by have:=hsz.1;omega
  have hf:=(zxa.1 hw).1
  have hf0:=hf
  cases hf with
  | unit e _=>subst e;exact K0.rs_0 hc hf0 hn h16
  | type e _ hy hfz=>subst e;exact K1.rs_1 hc hy hfz hf0 hn h16
  | none e|one e =>
   rcases e with rfl|rfl|rfl|rfl
   ·exact rs_2 hc hf0 hn h16
   ·exact rs_3 hc hf0 hn h16
   ·exact rs_8 hc hf0 hn h16
   ·exact rs_17 hc hf0 hn h16
  | two e _ _ =>
   rcases e with rfl|rfl|rfl|rfl
   ·exact rs_4 hc hf0 hn h16
   ·exact rs_11 hc hf0 hn h16
   ·exact rs_21 hc hf0 hn h16
   ·exact rs_22 hc hf0 hn h16
  | fn e _ _ _=>subst e;exact K6.rs_6 hc hf0 hn h16
  | param e _=>subst e;exact rs_7 hc hf0 hn h16
  | block e _=>subst e;exact K9.rs_9 hc hf0 hn h16
  | set e _=>subst e;exact rs_10 hc hf0 hn h16
  | cond e _ _ _ _=>subst e;exact K15.rs_15 hc hf0 hn h16
  | loop e _ _ _=>subst e;exact K16.rs_16 hc hf0 hn h16
  | call1 e _=>subst e;exact rs_20 hc hf0 hn h16
  | load e _=>subst e;exact rs_25 hc hf0 hn h16
  | call e _=>exact K28.rs_28 e hc hf0 hn h16
  | leaf e =>
   rcases e with rfl|rfl|rfl|rfl|rfl|rfl|rfl|rfl|rfl
   ·exact rs_5 hc hf0 hn h16
   ·exact rs_12 hc hf0 hn h16
   ·exact rs_13 hc hf0 hn h16
   ·exact rs_14 hc hf0 hn h16
   ·exact rs_18 hc hf0 hn h16
   ·exact rs_23 hc hf0 hn h16
   ·exact rs_24 hc hf0 hn h16
   ·exact rs_26 hc hf0 hn h16
   ·exact rs_27 hc hf0 hn h16
theorem zrn {w:World} {t:T} {S:Nat→Prop} {u:Value} (hk:KAt 34 w t.kids S u) (hS:∀ b,S b→b<w.heap.size) (hw:t.whole) (hs:t.small) (hz:t.size≤4096) :
  Calls Tryz.prog 10 #[zKa t u] w fun e w'=>e=.returned (.string (st (shw 0 t)))∧Below w.heap.size w w':=by
 have hb0:Below w.heap.size w (w.alloc (.cells [.int .i64 t.kind,.string t.text,.int .i64 t.num,.int .i64 t.place,u].toArray 34)):=(Below.refl _ _).alloc (Nat.le_refl _) _
 have HB0:=zh hb0
 have H:=zh (zcj t.size t (Nat.le_refl _) hw hs hz 0 (by omega) _ u ((hk.below hb0).mono fun b hb _=>Nat.lt_of_lt_of_le (hS b hb) hb0.size))
 clear hb0
 unfold zKa at H ⊢
 go_enter Tryz.func10,Tryz.ntmps10
 go_wp2_with fail
 refine H.out.mono ?_
 rintro e w2 ⟨rfl,hb⟩
 have HB:=zh (HB0.out.trans (hb.mono HB0.out.size))
 clear hb
 go_wp2_with fail
 go_ret
 exact ⟨rfl,HB.out⟩
end Go.Proofs.YtbfgdpcgdmabpaaGreatDoor
