/- The contract of lychgateref07.plain on every statement without a block. -/
import Derived.Test.YthdbmgijpelecaaGreatDoorM33
import Derived.Test.YthdbmgijpelecaaGreatDoorM17
namespace Go.Proofs.YthdbmgijpelecaaGreatDoor
open Go.RowKit
theorem zaj (t:T):t.kids.length≤t.size:=by
 cases t with
 | mk k s n p ks =>
  rw [size_mk]
  have:=zMc ks
  show ks.length≤_
  omega
theorem zpq {t:T} (hw:t.whole):(t.kind=21∨t.kind=22→1<t.kids.length)∧(t.kind=25→0<t.kids.length):=by
 obtain ⟨hf,_⟩:=zFe.1 hw
 generalize hk:t.kind=k at *
 generalize hks:t.kids=ks at *
 cases hf with
 | two _ _ _=>exact ⟨fun _=>by simp,fun _=>by simp⟩
 | load _ _=>exact ⟨fun h=>by omega,fun _=>by simp⟩
 | unit e|type e|none e|one e|fn e|param e|block e|set e|cond e|loop e|call1 e|call e|leaf e=>exact ⟨fun h=>by omega,fun h=>by omega⟩
theorem zpt {ks:List T} (h:Fit 11 ks):∃ a b,ks=[a,b]:=by
 cases h with
 | two _ _ _=>exact ⟨_,_,rfl⟩
 | unit e|type e|none e|one e|fn e|param e|block e|set e|cond e|loop e|call1 e|load e|call e|leaf e=>omega
theorem zzs {ks:List T} (h:Fit 17 ks):ks=[]∨∃ a,ks=[a]:=by
 cases h with
 | none _=>exact .inl rfl
 | one _ _=>exact .inr ⟨_,rfl⟩
 | unit e|type e|two e|fn e|param e|block e|set e|cond e|loop e|call1 e|load e|call e|leaf e=>omega
theorem zUq {ks:List T} (h:Fit 10 ks):∃ a,ks=[a]∧zEc a.kind:=by
 cases h with
 | set _ ha=>exact ⟨_,rfl,ha⟩
 | unit e|type e|none e|one e|two e|fn e|param e|block e|cond e|loop e|call1 e|load e|call e|leaf e=>omega
theorem zot {ks:List T} (h:Fit 20 ks):∃ a,ks=[a]:=by
 cases h with
 | call1 _ _=>exact ⟨_,rfl⟩
 | unit e|type e|none e|one e|two e|fn e|param e|block e|set e|cond e|loop e|load e|call e|leaf e=>omega
theorem zdo {w:World} {t:T} {S:Nat→Prop} {kv:Value} (hk:KAt 34 w t.kids S kv) (hw:t.whole) (hst:zZa t.kind) (h15:t.kind≠15) (h16:t.kind≠16) (hl:t.size≤5000) :
  ∃ i,(∀ blk c,zfe blk c t=[i])∧Calls Tryz.prog 85 #[zma t kv] w (zRb w i):=by
 cases t with
 | mk k tx nm p ks =>
  obtain ⟨hf,hws⟩:=zOd.1 hw
  rw [size_mk] at hl
  have hkl:=zMc ks
  have hk':KAt 34 w ks S kv:=hk
  have h15':k≠15:=h15
  have h16':k≠16:=h16
  have h11:k=10∨k=11∨k=12∨k=13∨k=14∨k=17∨k=18∨k=19∨k=20:=by unfold zZa at hst;rw [zRa] at hst;omega
  clear hk h15 h16 h15' h16' hst
  rcases h11 with rfl|rfl|rfl|rfl|rfl|rfl|rfl|rfl|rfl
  ·obtain ⟨a,rfl,ha⟩:=zUq hf
   have h1:=zaj a
   rw [zoa] at hl
   have hx:=zpq (zHa.1 hws).1
   exact ⟨_,fun _ _=>rfl,zcp hk' ha (by omega) hx.1 hx.2⟩
  ·obtain ⟨a,b,rfl⟩:=zpt hf
   exact ⟨_,fun _ _=>rfl,ztp hk'⟩
  ·exact ⟨_,fun _ _=>rfl,zmp hk'⟩
  ·exact ⟨_,fun _ _=>rfl,zKo hk'⟩
  ·exact ⟨_,fun _ _=>rfl,zuo hk'⟩
  ·rcases zzs hf with rfl|⟨a,rfl⟩
   ·exact ⟨_,fun _ _=>rfl,zqn hk'⟩
   ·exact ⟨_,fun _ _=>rfl,zDo hk'⟩
  ·exact ⟨_,fun _ _=>rfl,zDp hk'⟩
  ·exact ⟨_,fun _ _=>rfl,zfq hk' (by omega)⟩
  ·obtain ⟨a,rfl⟩:=zot hf
   have h1:=zaj a
   rw [zoa] at hl
   exact ⟨_,fun _ _=>rfl,zHo hk' (by omega)⟩
end Go.Proofs.YthdbmgijpelecaaGreatDoor
