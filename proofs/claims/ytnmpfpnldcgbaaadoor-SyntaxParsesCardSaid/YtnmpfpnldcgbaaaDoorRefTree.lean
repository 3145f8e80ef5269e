/- The contract of lychgate/lychgatelaw02.refTree: the same tree in new memory, nodes of the other type; nothing that was there is changed. -/
import Derived.Test.YtnmpfpnldcgbaaaDoorForms
import Derived.Test.YtnmpfpnldcgbaaaDoorAppend
namespace Go.Proofs.YtnmpfpnldcgbaaaDoor
open Go.RowKit

theorem Tryd.refInfo : ∃ i z, NodeInfo Tryd.prog 29 31 i z := by
  have h : (Tryd.prog.info? 31).map (fun i => (i.zero, i.size, i.bytes)) = some (some (.agg #[.int .i64 0, .string ⟨#[]⟩, .int .i64 0, .int .i64 0, .slice none 0 0]), 5, 64) := by kernel_rfl
  obtain ⟨i0, hi, hz0, hz1, hz2⟩ := info_parts h
  exact ⟨i0, _, Tryd.underlying29, hi, hz0, hz1, hz2, rfl⟩
theorem Tryd.sizeRef : (Tryd.prog.info? 31).map (·.size) = some 5 := by kernel_rfl

theorem rbelow_setRow {B : Nat} {a w : World} (h : Below B a w) {g : Nat} (hg : B ≤ g) (cs : Array Value) : Below B a (w.setRow g cs) :=
  ⟨h.os, h.tape, h.output, by simpa [World.setRow] using h.size, fun k hk => (setRow_other w g k cs (by omega)).trans (h.block k hk)⟩
theorem Blk.below {w w' : World} {g : Nat} {cs : List Value} {t : TypeId} (h : Blk w g cs t) (hb : Below w.heap.size w w') : Blk w' g cs t := (hb.block g h.lt).trans h

def RtPost (w : World) (t : T) (e : Ending) (w' : World) : Prop := ∃ v, e = .returned (NodeV t v) ∧ KAt 31 w' t.kids (fun b => w.heap.size ≤ b) v ∧ Below w.heap.size w w'

structure RefSt (w : World) (t : T) (ks : List T) (v : Value) (W : World) : Prop where
  below : Below w.heap.size w W
  res : Blk W (w.heap.size + 1) zeroNodeCells 31
  loc : Blk W (w.heap.size + 2) (nodeCells (.mk t.kind t.text t.num t.place ks) v) 31
  kids : KAt 31 W ks (fun b => w.heap.size + 2 < b) v
section
variable {w W W' : World} {t : T} {ks : List T} {v : Value}
theorem RefSt.alloc (h : RefSt w t ks v W) (o : Obj) : RefSt w t ks v (W.alloc o) := ⟨h.below.alloc h.below.size o, h.res.alloc o, h.loc.alloc o, h.kids.alloc o⟩
theorem RefSt.drew (h : RefSt w t ks v W) : RefSt w t ks v W.drew := ⟨h.below.drew, h.res.drew, h.loc.drew, h.kids.drew⟩
theorem RefSt.call (h : RefSt w t ks v W) (hb : Below W.heap.size W W') : RefSt w t ks v W' := ⟨h.below.trans (hb.mono h.below.size), h.res.below hb, h.loc.below hb, h.kids.below hb⟩
theorem RefSt.lt (h : RefSt w t ks v W) : w.heap.size + 2 < W.heap.size := h.loc.lt
theorem RefSt.fresh (h : RefSt w t ks v W) {a : T} {u : Value} (hu : KAt 31 W' a.kids (fun b => W.heap.size ≤ b) u) : TAt 31 W' a (fun b => w.heap.size + 2 < b ∧ v.ownBlock ≠ some b) u :=
  TAt.of_kids (hu.mono fun b hb _ => by
    have h1 := h.lt
    refine ⟨by omega, fun hv => ?_⟩
    obtain ⟨_, ho, _⟩ := h.kids
    have := (ho.lt b hv).2
    omega)
theorem RefSt.after (h : RefSt w t ks v W) {ts : List T} {v' : Value} (hK : KAt 31 W' (ks ++ ts) (fun b => w.heap.size + 2 < b) v') (hg : W.grownBy W' v.ownBlock) :
    RefSt w t (ks ++ ts) v' (W'.setCell ⟨w.heap.size + 2, 4, none⟩ v') ∧ Blk W' (w.heap.size + 2) (nodeCells (.mk t.kind t.text t.num t.place ks) v) 31 := by
  have hrow : ∀ k, v.ownBlock = some k → w.heap.size + 2 < k := fun k hk => by obtain ⟨_, _, hS, _⟩ := h.kids; exact hS k hk
  have h1 : Blk W' (w.heap.size + 2) (nodeCells (.mk t.kind t.text t.num t.place ks) v) 31 := h.loc.grown hg (fun e => by have := hrow _ e.symm; omega)
  have h2 : Blk W' (w.heap.size + 1) zeroNodeCells 31 := h.res.grown hg (fun e => by have := hrow _ e.symm; omega)
  refine ⟨⟨(h.below.grown hg h.below.size (fun k hk => by have := hrow k hk; omega)).setCell (by show w.heap.size ≤ w.heap.size + 2; omega) _, h2.setOther _ _ (by show w.heap.size + 1 ≠ w.heap.size + 2; omega), h1.setSame 4 v', hK.setCell _ _ (fun b hb => by show b ≠ w.heap.size + 2; omega)⟩, h1⟩
theorem RefSt.post (h : RefSt w t t.kids v W) : RtPost w t (.returned (.agg (nodeCells t v).toArray)) (W.setRow (w.heap.size + 1) (nodeCells t v).toArray) :=
  ⟨v, rfl, (h.kids.setRow _ _ (fun b hb => by omega)).mono (fun b hb _ => by omega), rbelow_setRow h.below (by omega) _⟩
end
theorem refSt_new (w : World) (t : T) (kv : Value) : RefSt w t [] (.slice none 0 0) (((w.alloc (.cells (nodeCells t kv).toArray 25)).alloc (.cells zeroNodeCells.toArray 31)).alloc (.cells (nodeCells (.mk t.kind t.text t.num t.place []) (.slice none 0 0)).toArray 31)) := by
  have h1 : ((w.alloc (.cells (nodeCells t kv).toArray 25)).alloc (.cells zeroNodeCells.toArray 31)).heap.size = w.heap.size + 2 := by simp
  have h2 := Blk.new ((w.alloc (.cells (nodeCells t kv).toArray 25)).alloc (.cells zeroNodeCells.toArray 31)) (nodeCells (.mk t.kind t.text t.num t.place []) (.slice none 0 0)) 31
  rw [h1] at h2
  refine ⟨(((Below.refl _ _).alloc (Nat.le_refl _) _).alloc (by simp) _).alloc (by simp; omega) _, (Blk.new2 w _ _ _).alloc _, h2, KAt.nil _ _ _⟩

def RtRel (w : World) (t : T) (g : Nat) (i : Value) (wr : World) : Prop :=
  ∃ (k : Nat) (v : Value), k ≤ t.kids.length ∧ t.kids.length ≤ k + g ∧ i = .int .i64 k ∧ RefSt w t (t.kids.take k) v wr

set_option maxRecDepth 100000 in
set_option maxHeartbeats 2000000 in
theorem refTree_any : ∀ (n : Nat) (t : T), t.size ≤ n → ∀ {w : World} {S : Nat → Prop} {kv : Value}, KAt 25 w t.kids S kv → t.size ≤ 50000 →
    Calls Tryd.prog 17 #[NodeV t kv] w (RtPost w t) := by
  intro n
  induction n with
  | zero => intro t ht; cases t; rw [size_mk] at ht; omega
  | succ n ih =>
    intro t ht w S kv hk hbig
    obtain ⟨i0, z0, I⟩ := Tryd.refInfo
    have hts : t.size = 1 + sizes t.kids := by cases t; rw [size_mk]; rfl
    have HTS := Lib.hid hts
    have HT := Lib.hid ht
    have HBIG := Lib.hid hbig
    have HIH := Lib.hid (@ih)
    have hkl : t.kids.length ≤ sizes t.kids := by
      have : ∀ ks : List T, ks.length ≤ sizes ks := fun ks => by
        induction ks with
        | nil => simp
        | cons a ks h => rw [sizes_cons]; cases a; rw [size_mk]; simp; omega
      exact this _
    have hkl2 : t.kids.length ≤ 50000 := by omega
    have hmk : T.mk t.kind t.text t.num t.place t.kids = t := by cases t; rfl
    have HMK := Lib.hid hmk
    have HNEW := Lib.hid (refSt_new w t kv)
    clear hmk
    rcases hk.form with ⟨rfl, hnil⟩ | ⟨g, cap, rfl, hg, hcap, hcm, hget⟩
    · have HN := Lib.hid (show RefSt w t t.kids (.slice none 0 0) _ by rw [hnil]; exact HNEW.out)
      have HNL := Lib.hid (show Blk _ (w.heap.size + 2) (nodeCells t (.slice none 0 0)) 31 by have := HN.out.loc; rw [HMK.out] at this; exact this)
      clear hk ih ht hbig hts hnil hkl hkl2
      unfold NodeV
      go_enter Tryd.func17, Tryd.ntmps17
      go_wp2_with ((with_reducible refine at_st 31 (.tmp 3) ?_); refine wpList_store_new rfl 31 (.tmp 3) (.tmp 14) rfl (nodeCells (.mk t.kind t.text t.num t.place []) (.slice none 0 0)) (old := zeroNodeCells) rfl rfl Tryd.sizeRef rfl (nodeCells_one _ _ rfl) ?_)
      refine wp_loop_rounds 1 ?_
      rw [rounds_succ]
      go_wp2_with (first
        | ((with_reducible refine at_ld 31 (.tmp 3) ?_); refine wpList_load_blk rfl 31 (.tmp 3) rfl (w.heap.size + 2) (nodeCells t (.slice none 0 0)) rfl HNL.out Tryd.underlying31 rfl Tryd.sizeRef ?_)
        | ((with_reducible refine at_st 31 (.tmp 2) ?_); refine wpList_store_blk rfl 31 (.tmp 2) (.tmp 30) rfl (w.heap.size + 1) (nodeCells t (.slice none 0 0)) rfl rfl HN.out.res Tryd.sizeRef rfl (nodeCells_one _ _ rfl) ?_))
      exact ret_blk (cs := nodeCells t (.slice none 0 0)) Tryd.results17 rfl HN.out.res Tryd.underlying31 rfl Tryd.sizeRef rfl HN.out.post
    · have HG := Lib.hid hget
      have HCAP := Lib.hid hcap
      have HHG := Lib.hid hg
      clear hk ih ht hbig hts hget hkl hcap hg
      unfold maxLen at hcm
      unfold NodeV
      go_enter Tryd.func17, Tryd.ntmps17
      go_wp2_with ((with_reducible refine at_st 31 (.tmp 3) ?_); refine wpList_store_new rfl 31 (.tmp 3) (.tmp 14) rfl (nodeCells (.mk t.kind t.text t.num t.place []) (.slice none 0 0)) (old := zeroNodeCells) rfl rfl Tryd.sizeRef rfl (nodeCells_one _ _ rfl) ?_)
      go_loopg [18] t.kids.length (fun gk i wr => RtRel w t gk i wr)
      case atStart => exact ⟨0, _, by omega, by omega, rfl, HNEW.out⟩
      case round =>
        obtain ⟨k, v, hk, hgk, rfl, hst⟩ := hrel
        have HS := Lib.hid hst
        have hzw := hst.lt
        clear hst HNEW
        by_cases hlt : k < t.kids.length
        · obtain ⟨u, hr, hT⟩ := HG.out k t.kids[k] (List.getElem?_eq_getElem hlt)
          have hne := List.getElem?_eq_getElem hlt
          have htk : t.kids.take (k + 1) = t.kids.take k ++ [t.kids[k]] := List.take_succ_eq_append_getElem hlt
          generalize t.kids[k] = tk at hr hT hne htk
          have HR := Lib.hid (rangeAt_below hr (HS.out.below.mono (Nat.le_refl _)) HHG.out)
          have HTK := Lib.hid (hT.below HS.out.below)
          have HTAKE := Lib.hid htk
          have hcap := HCAP.out
          have hks := sizes_mem hne
          clear hr hT hne htk
          go_wp2_with (first
            | ((with_reducible refine at_ld 25 (.tmp 20) ?_); refine wpList_load_mid rfl 25 (.tmp 20) rfl g (k * 5) rfl (nodeCells tk u) _ HR.out Tryd.underlying25 rfl Tryd.sizeNode ?_)
            | ((with_reducible refine at_st 25 (.tmp 5) ?_); refine wpList_store_new rfl 25 (.tmp 5) (.tmp 21) rfl (nodeCells tk u) (old := zeroNodeCells) rfl rfl Tryd.sizeNode rfl (nodeCells_one _ _ HTK.out.kat.one) ?_))
          have HKB := Lib.hid (Blk.new wr (nodeCells tk u) 25)
          refine AnyE.begin2 (S := fun W => Blk W (w.heap.size + 2) (nodeCells (.mk t.kind t.text t.num t.place (t.kids.take k)) v) 31 ∧ Blk W wr.heap.size (nodeCells tk u) 25) (by kernel_rfl) ⟨(HS.out.alloc _).loc.drew, HKB.out.drew⟩ (fun hS => ?_)
          refine AnyE.take (i := 0) (v := .pointer (some ⟨w.heap.size + 2, 4, none⟩)) rfl (by kernel_rfl) (by kernel_rfl) (by kernel_rfl) (by kernel_rfl) (fun _ _ _ h => h) (Or.inl ⟨by rfl, fun W _ => by go_simp⟩) hS ?_
          refine AnyE.take (i := 1) (v := v) rfl (by kernel_rfl) (by kernel_rfl) (by kernel_rfl) (by kernel_rfl) (fun _ _ _ h => h) (Or.inl ⟨by rfl, fun W hW => by have hcx : W.cell? ⟨w.heap.size + 2, 4, none⟩ = some (v) := hW.1.cell 4; go_simp⟩) hS ?_
          refine AnyE.take (i := 2) (v := .agg #[.int .i64 tk.kind, .string tk.text, .int .i64 tk.num, .int .i64 tk.place, u]) rfl (by kernel_rfl) (by kernel_rfl) (by kernel_rfl) (by kernel_rfl) (fun _ _ _ h => h) (yieldsIf_load_mid (cs := nodeCells tk u) (by rfl) 25 (.tmp 5) rfl (wr.heap.size) 0 rfl _ (fun W hW j v hj => by rw [Nat.zero_add, hW.2.cell j]; exact hj) Tryd.underlying25 rfl Tryd.sizeNode) hS ?_
          refine AnyE.one (i := 3) (by kernel_rfl) rfl (by rfl) (fun K hK => ?_)
          go_simp
          refine (HIH.out tk (by have h2 := HTS.out; have h3 := HT.out; omega) ((HTK.out.alloc _).drew).kat (by have h2 := HTS.out; have h3 := HBIG.out; omega)).mono ?_
          rintro e w3 ⟨u3, rfl, hu3, hb3⟩
          have HF3 := Lib.hid ((HS.out.alloc (.cells (nodeCells tk u).toArray 25)).drew.fresh hu3)
          have HS3 := Lib.hid ((HS.out.alloc (.cells (nodeCells tk u).toArray 25)).drew.call hb3)
          have HK3 := Lib.hid (HKB.out.drew.below hb3)
          have hz3 := HS3.out.lt
          clear hu3 hb3
          unfold NodeV
          refine hK.out _ _ (fun _ => ⟨HS3.out.loc, HK3.out⟩) ?_
          clear hK K
          refine AnyE.one (i := 4) (by kernel_rfl) rfl (by rfl) (fun K hK => ?_)
          go_simp
          refine hK.out _ _ (fun _ => ⟨(HS3.out.alloc _).loc, HK3.out.alloc _⟩) ?_
          clear hK K
          refine AnyE.one (i := 5) (by kernel_rfl) rfl (by rfl) (fun K hK => ?_)
          refine wp_append_trees (.tmp 23) (.tmp 26) rfl I (ts := [tk]) rfl (HS3.out.alloc _).kids (us := [u3]) (TsAt.single (HF3.out.alloc _)) (by simp; omega) rfl rfl (by simp) (lit1_at w3 _ tk u3) (by simp; omega) ?_
          intro v4 w4 hK4 hg4 _
          obtain ⟨sa, sn, sc, rfl⟩ := hK4.slice
          obtain ⟨h1, h2⟩ := (HS3.out.alloc _).after hK4 hg4
          have hkb4 : Blk w4 wr.heap.size (nodeCells tk u) 25 := (HK3.out.alloc _).grown hg4 (fun e => by
            obtain ⟨_, ho, hSv, _⟩ := HS.out.kids
            have := (ho.lt wr.heap.size e.symm).2
            omega)
          have hcx : w4.cell? ⟨w.heap.size + 2, 4, none⟩ = some v := h2.cell 4
          have hfx := h2.frozen 4
          have HS4 := Lib.hid h1
          have HC4 := Lib.hid h2
          have HKB4 := Lib.hid hkb4
          clear h1 h2 hK4 hg4 hkb4
          refine hK.out _ _ (fun _ => ⟨HC4.out, HKB4.out⟩) ?_
          clear hK K
          refine AnyE.one (i := 6) (by kernel_rfl) rfl (by rfl) (fun K hK => ?_)
          go_simp
          refine hK.out _ _ (fun _ => ⟨HC4.out, HKB4.out⟩) ?_
          clear hK K
          refine AnyE.one (i := 7) (by kernel_rfl) rfl (by rfl) (fun K hK => ?_)
          go_simp
          refine hK.out _ _ (fun h => absurd rfl h) ?_
          clear hK K
          refine AnyE.done (by kernel_rfl) ?_ _
          clear hcx hfx
          generalize w4.setCell ⟨w.heap.size + 2, 4, none⟩ (.slice sa sn sc) = w5 at HS4 ⊢
          go_wp2
          go_roundg (gk - 1)
          case measure => omega
          case rel => exact ⟨k + 1, _, by omega, by omega, by go_num, by rw [HTAKE.out]; exact HS4.out⟩
        · have HE := Lib.hid (show RefSt w t t.kids v wr by have := HS.out; rw [List.take_of_length_le (show t.kids.length ≤ k by omega)] at this; exact this)
          have HL := Lib.hid (show Blk wr (w.heap.size + 2) (nodeCells t v) 31 by have := HE.out.loc; rw [HMK.out] at this; exact this)
          go_wp2_with (first
            | ((with_reducible refine at_ld 31 (.tmp 3) ?_); refine wpList_load_blk rfl 31 (.tmp 3) rfl (w.heap.size + 2) (nodeCells t v) rfl HL.out Tryd.underlying31 rfl Tryd.sizeRef ?_)
            | ((with_reducible refine at_st 31 (.tmp 2) ?_); refine wpList_store_blk rfl 31 (.tmp 2) (.tmp 30) rfl (w.heap.size + 1) (nodeCells t v) rfl rfl HE.out.res Tryd.sizeRef rfl (nodeCells_one _ _ HE.out.kids.one) ?_))
          exact ret_blk (cs := nodeCells t v) Tryd.results17 rfl HE.out.res Tryd.underlying31 rfl Tryd.sizeRef rfl HE.out.post

end Go.Proofs.YtnmpfpnldcgbaaaDoor
