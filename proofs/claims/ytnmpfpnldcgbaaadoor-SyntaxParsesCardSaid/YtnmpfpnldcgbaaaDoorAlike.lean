/- A region that draws its order, all of whose operations leave a condition S as it is: those that yield are taken first, the others walked in their one order. Nothing of the program is walked here. Trees that are alike, as a Bool. Nothing of the program is walked here. The contract of lychgate/lychgatelaw02.alike: whether two trees in memory are alike; nothing that was there is changed. -/
import Derived.Test.YtnmpfpnldcgbaaaDoorAppend
import Derived.Test.YtnmpfpnldcgbaaaDoorForms
import Derived.Test.YtnmpfpnldcgbaaaDoorSim
import Derived.Test.YtnmpfpnldcgbaaaDoorRefTree
namespace Go.Proofs.YtnmpfpnldcgbaaaDoor
section
open Go.RowKit

section
variable {P : Program} {ops : Array Oper} {Q : Exit → Act → World → Prop} {md : Region.Mode} {S : World → Prop}
theorem AnyH.one {i : Nat} {o : Oper} {fuel : Nat} {listed : Array Bool} {a : Act} {w : World} (hr : Region.ready md ops listed = [i]) (ho : ops[i]? = some o) (hw : Region.wanted o (yielded ops a.tmps) = true)
    (h : ∀ K : Act → World → Prop, Shut (∀ a w, S w → wpAnyH P md ops Q S fuel (listed.setIfInBounds i true) a w → K a w) → o.wp P a w K Q) : wpAnyH P md ops Q S (fuel + 1) listed a w := by
  refine ⟨(fun h0 => by rw [hr] at h0; cases h0), fun j hj => ?_⟩
  rw [hr] at hj
  obtain rfl : j = i := by simpa using hj
  refine wpOp_step ho fun K' hK => ?_
  rw [if_pos hw]
  exact h K' fun a w hS hA => hK a w ⟨hS, hA⟩
end

mutual
def alikeB (b : Bool) : T → T → Bool
  | .mk k s n p ks, u => !(k != u.kind) && (s.toList == u.text.toList && (!(n != u.num) && (!(b && (p != u.place)) && (!(ks.length != u.kids.length) && alikesB b ks u.kids))))
def alikesB (b : Bool) : List T → List T → Bool
  | [], _ => true
  | t :: ts, us => match us with
    | [] => false
    | u :: us' => alikeB b t u && alikesB b ts us'
end
theorem alike_eq (b : Bool) (t u : T) : alikeB b t u = (!(t.kind != u.kind) && (t.text.toList == u.text.toList && (!(t.num != u.num) && (!(b && (t.place != u.place)) && (!(t.kids.length != u.kids.length) && alikesB b t.kids u.kids))))) := by cases t; rw [alikeB]; rfl
theorem alikes_nil (b : Bool) (us : List T) : alikesB b [] us = true := by rw [alikesB]
theorem alikes_cons (b : Bool) (t u : T) (ts us : List T) : alikesB b (t :: ts) (u :: us) = (alikeB b t u && alikesB b ts us) := by rw [alikesB]
theorem alike_kind {b : Bool} {t u : T} (h : (t.kind != u.kind) = true) : alikeB b t u = false := by rw [alike_eq, h]; rfl
theorem alike_text {b : Bool} {t u : T} (h : (t.text.toList == u.text.toList) = false) : alikeB b t u = false := by rw [alike_eq, h]; simp
theorem alike_num {b : Bool} {t u : T} (h : (t.num != u.num) = true) : alikeB b t u = false := by rw [alike_eq, h]; simp
theorem alike_place {t u : T} (h : (t.place != u.place) = true) : alikeB true t u = false := by rw [alike_eq, h]; simp
theorem alike_len {b : Bool} {t u : T} (h : (t.kids.length != u.kids.length) = true) : alikeB b t u = false := by rw [alike_eq, h]; simp
theorem alike_kids {b : Bool} {t u : T} (h1 : (t.kind != u.kind) = false) (h2 : (t.text.toList == u.text.toList) = true) (h3 : (t.num != u.num) = false) (h4 : b = true → (t.place != u.place) = false) (h5 : (t.kids.length != u.kids.length) = false) : alikeB b t u = alikesB b t.kids u.kids := by
  rw [alike_eq, h1, h2, h3, h5]
  cases b
  · simp
  · rw [h4 rfl]; simp
theorem alikes_drop {b : Bool} {ts us : List T} {k : Nat} {t u : T} (ht : ts[k]? = some t) (hu : us[k]? = some u) : alikesB b (ts.drop k) (us.drop k) = (alikeB b t u && alikesB b (ts.drop (k + 1)) (us.drop (k + 1))) := by
  obtain ⟨h1, h2⟩ := List.getElem?_eq_some_iff.1 ht
  obtain ⟨h3, h4⟩ := List.getElem?_eq_some_iff.1 hu
  rw [List.drop_eq_getElem_cons h1, List.drop_eq_getElem_cons h3, alikes_cons, h2, h4]

theorem KAt.len {e : TypeId} {w : World} {ks : List T} {S : Nat → Prop} {v : Value} (h : KAt e w ks S v) : ∃ a c, v = .slice a ks.length c := by
  obtain ⟨_, ho, _⟩ := h
  rcases ho.2 with ⟨rfl, h0⟩ | ⟨g, cap, _, rfl, _⟩
  · exact ⟨none, 0, by rw [h0]⟩
  · exact ⟨_, _, rfl⟩

mutual
theorem TR.alike {ρ : Nat → Nat → Prop} {b : Bool} (hb : b = true → ∀ p q, ρ p q → p = q) : ∀ {t u : T}, TR ρ t u → alikeB b t u = true
  | .mk k s n p ks, u, h => by
    unfold TR at h
    obtain ⟨h1, h2, h3, h4, h5⟩ := h
    have h6 : ks.length = u.kids.length := TsR.len h5
    have h7 : alikesB b ks u.kids = true := TsR.alike hb h5
    rw [alikeB, h7, ← h1, ← h2, ← h3, ← h6]
    cases b
    · simp
    · rw [← hb rfl _ _ h4]; simp
theorem TsR.alike {ρ : Nat → Nat → Prop} {b : Bool} (hb : b = true → ∀ p q, ρ p q → p = q) : ∀ {ts us : List T}, TsR ρ ts us → alikesB b ts us = true
  | [], us, h => by rw [alikesB]
  | t :: ts, us, h => by
    unfold TsR at h
    obtain ⟨u, us', rfl, h1, h2⟩ := h
    rw [alikes_cons, TR.alike hb h1, TsR.alike hb h2]
    rfl
theorem TsR.len {ρ : Nat → Nat → Prop} : ∀ {ts us : List T}, TsR ρ ts us → ts.length = us.length
  | [], us, h => by unfold TsR at h; rw [h]
  | t :: ts, us, h => by
    unfold TsR at h
    obtain ⟨u, us', rfl, _, h2⟩ := h
    simp [TsR.len h2]
end
mutual
theorem TR.size {ρ : Nat → Nat → Prop} : ∀ {t u : T}, TR ρ t u → t.size = u.size
  | .mk k s n p ks, u, h => by
    unfold TR at h
    obtain ⟨h1, h2, h3, h4, h5⟩ := h
    cases u
    rw [size_mk, size_mk, TsR.sizes h5]
    rfl
theorem TsR.sizes {ρ : Nat → Nat → Prop} : ∀ {ts us : List T}, TsR ρ ts us → Go.Proofs.YtnmpfpnldcgbaaaDoor.sizes ts = Go.Proofs.YtnmpfpnldcgbaaaDoor.sizes us
  | [], us, h => by unfold TsR at h; rw [h]
  | t :: ts, us, h => by
    unfold TsR at h
    obtain ⟨u, us', rfl, h1, h2⟩ := h
    rw [sizes_cons, sizes_cons, TR.size h1, TsR.sizes h2]
end
end

section
open Go.RowKit

structure AlSt (w : World) (t u : T) (kv ku : Value) (W : World) : Prop where
  below : Below w.heap.size w W
  one : Blk W w.heap.size (nodeCells t kv) 31
  two : Blk W (w.heap.size + 1) (nodeCells u ku) 31
section
variable {w W W' : World} {t u : T} {kv ku : Value}
theorem AlSt.drew (h : AlSt w t u kv ku W) : AlSt w t u kv ku W.drew := ⟨h.below.drew, h.one.drew, h.two.drew⟩
theorem AlSt.call (h : AlSt w t u kv ku W) (hb : Below W.heap.size W W') : AlSt w t u kv ku W' := ⟨h.below.trans (hb.mono h.below.size), h.one.below hb, h.two.below hb⟩
theorem AlSt.lt (h : AlSt w t u kv ku W) : w.heap.size + 1 < W.heap.size := h.two.lt
end
theorem alSt_new (w : World) (t u : T) (kv ku : Value) : AlSt w t u kv ku ((w.alloc (.cells (nodeCells t kv).toArray 31)).alloc (.cells (nodeCells u ku).toArray 31)) :=
  ⟨((Below.refl _ _).alloc (Nat.le_refl _) _).alloc (by simp) _, (Blk.new w _ _).alloc _, Blk.new2 w _ _ _⟩

def AlRel (b : Bool) (w : World) (t u : T) (kv ku : Value) (g : Nat) (i : Value) (wr : World) : Prop :=
  ∃ k : Nat, k ≤ t.kids.length ∧ t.kids.length ≤ k + g ∧ i = .int .i64 k ∧ alikesB b t.kids u.kids = alikesB b (t.kids.drop k) (u.kids.drop k) ∧ AlSt w t u kv ku wr

theorem world2 (w : World) (o p : Obj) : Below w.heap.size w ((w.alloc o).alloc p) := ((Below.refl _ _).alloc (Nat.le_refl _) _).alloc (by simp) _

set_option maxRecDepth 100000 in
set_option maxHeartbeats 4000000 in
theorem alike_any : ∀ (n : Nat) (t u : T) (b : Bool), t.size ≤ n → ∀ {w : World} {S S' : Nat → Prop} {kv ku : Value}, KAt 31 w t.kids S kv → KAt 31 w u.kids S' ku → t.kids.length ≤ 1000000 → u.kids.length ≤ 1000000 → t.size ≤ 1000000 → u.size ≤ 1000000 →
    Calls Tryd.prog 16 #[NodeV t kv, NodeV u ku, .bool b] w fun e w' => e = .returned (.bool (alikeB b t u)) ∧ Below w.heap.size w w' := by
  intro n
  induction n with
  | zero => intro t u b ht; cases t; rw [size_mk] at ht; omega
  | succ n ih =>
    intro t u b ht w S S' kv ku hk hk2 hl1 hl2 hz1 hz2
    obtain ⟨a1, c1, rfl⟩ := hk.len
    obtain ⟨a2, c2, rfl⟩ := hk2.len
    have HK := Lib.hid hk
    have HK2 := Lib.hid hk2
    have HT := Lib.hid ht
    have HZ1 := Lib.hid hz1
    have HZ2 := Lib.hid hz2
    have HIH := Lib.hid (@ih)
    have hts : t.size = 1 + sizes t.kids := by cases t; rw [size_mk]; rfl
    have hus : u.size = 1 + sizes u.kids := by cases u; rw [size_mk]; rfl
    have HTS := Lib.hid hts
    have HUS := Lib.hid hus
    have HNEW := Lib.hid (alSt_new w t u (.slice a1 t.kids.length c1) (.slice a2 u.kids.length c2))
    clear hk hk2 ht ih hts hus hz1 hz2
    cases h1 : (t.kind != u.kind) with
    | true =>
      have HF := Lib.hid (alike_kind (b := b) h1)
      unfold NodeV
      go_enter Tryd.func16, Tryd.ntmps16
      go_wp2_with fail
      go_ret
      exact ⟨ret_bool HF.out.symm, world2 _ _ _⟩
    | false =>
    cases h2 : (t.text.toList == u.text.toList) with
    | false =>
      have HF := Lib.hid (alike_text (b := b) h2)
      unfold NodeV
      go_enter Tryd.func16, Tryd.ntmps16
      go_wp2_with fail
      go_ret
      exact ⟨ret_bool HF.out.symm, world2 _ _ _⟩
    | true =>
    cases h3 : (t.num != u.num) with
    | true =>
      have HF := Lib.hid (alike_num (b := b) h3)
      unfold NodeV
      go_enter Tryd.func16, Tryd.ntmps16
      go_wp2_with fail
      go_ret
      exact ⟨ret_bool HF.out.symm, world2 _ _ _⟩
    | false =>
    by_cases h4 : b = true ∧ t.place ≠ u.place
    · obtain ⟨rfl, hpp⟩ := h4
      have HF := Lib.hid (alike_place (bne_iff_ne.2 hpp))
      have hp1 : ((t.place : Int) != (u.place : Int)) = true := by simp; omega
      unfold NodeV
      go_enter Tryd.func16, Tryd.ntmps16
      go_wp2_with fail
      go_ret
      exact ⟨ret_bool HF.out.symm, world2 _ _ _⟩
    · have hpl : b = true → t.place = u.place := fun hb => Classical.byContradiction fun hn => h4 ⟨hb, hn⟩
      by_cases h5 : t.kids.length = u.kids.length
      case neg =>
        have HF := Lib.hid (alike_len (b := b) (bne_iff_ne.2 h5))
        have hl : ((t.kids.length : Int) != (u.kids.length : Int)) = true := by simp; omega
        cases b with
        | true =>
          have hp1 : ((t.place : Int) != (u.place : Int)) = false := by rw [hpl rfl]; simp
          clear h4 hpl h5
          unfold NodeV
          go_enter Tryd.func16, Tryd.ntmps16
          go_wp2_with fail
          go_ret
          exact ⟨ret_bool HF.out.symm, world2 _ _ _⟩
        | false =>
          clear h4 hpl h5
          unfold NodeV
          go_enter Tryd.func16, Tryd.ntmps16
          go_wp2_with fail
          go_ret
          exact ⟨ret_bool HF.out.symm, world2 _ _ _⟩
      case pos =>
        have HAL := Lib.hid (alike_kids h1 h2 h3 (fun hb => by rw [hpl hb]; simp) (by rw [h5]; simp : (t.kids.length != u.kids.length) = false))
        have hl : ((t.kids.length : Int) != (u.kids.length : Int)) = false := by rw [h5]; simp
        have H5 := Lib.hid h5
        have hbp : b = false ∨ (b = true ∧ ((t.place : Int) != (u.place : Int)) = false) := by
          cases b
          · exact .inl rfl
          · exact .inr ⟨rfl, by rw [hpl rfl]; simp⟩
        clear h4 hpl h5
        by_cases h0 : t.kids.length = 0
        · have HE := Lib.hid (show alikeB b t u = true by rw [HAL.out, List.eq_nil_of_length_eq_zero h0, alikes_nil])
          rw [← H5.out, h0] at *
          clear h0 HNEW HK HK2
          rcases hbp with rfl | ⟨rfl, hp1⟩
          all_goals
            unfold NodeV
            go_enter Tryd.func16, Tryd.ntmps16
            go_wp2_with fail
            refine wp_loop_rounds 1 ?_
            rw [rounds_succ]
            go_wp2_with fail
            go_ret
            exact ⟨ret_bool HE.out.symm, world2 _ _ _⟩
        · have hform1 := HK.out.form
          have hform2 := HK2.out.form
          rcases hform1 with ⟨_, hn⟩ | ⟨g, cap, hs1, hg, hcap, hcm, hget⟩
          · rw [hn] at h0; exact absurd rfl h0
          rcases hform2 with ⟨_, hn⟩ | ⟨g2, cap2, hs2, hg2, hcap2, hcm2, hget2⟩
          · have := H5.out; rw [hn] at this; exact absurd this h0
          cases hs1
          cases hs2
          have HG := Lib.hid hget
          have HG2 := Lib.hid hget2
          have HHG := Lib.hid hg
          have HHG2 := Lib.hid hg2
          have HCAP := Lib.hid hcap
          have HCAP2 := Lib.hid hcap2
          clear hget hget2 hg hg2 hcap hcap2 HK HK2 h0
          unfold maxLen at hcm hcm2
          rcases hbp with rfl | ⟨rfl, hp1⟩
          ·
            unfold NodeV
            go_enter Tryd.func16, Tryd.ntmps16
            go_wp2_with fail
            go_loopg [49] t.kids.length (fun gk i wr => AlRel false w t u (.slice (some ⟨g, 0, none⟩) t.kids.length c1) (.slice (some ⟨g2, 0, none⟩) u.kids.length c2) gk i wr)
            case atStart => exact ⟨0, by omega, by omega, rfl, rfl, HNEW.out⟩
            case round =>
              obtain ⟨k, hk, hgk, rfl, hrest, hst⟩ := hrel
              have HS := Lib.hid hst
              have HR := Lib.hid hrest
              have hzw := hst.lt
              clear hst hrest
              by_cases hlt : k < t.kids.length
              · have hlt2 : k < u.kids.length := by have := H5.out; omega
                obtain ⟨x1, hr1, hT1⟩ := HG.out k t.kids[k] (List.getElem?_eq_getElem hlt)
                obtain ⟨x2, hr2, hT2⟩ := HG2.out k u.kids[k] (List.getElem?_eq_getElem hlt2)
                have hne := List.getElem?_eq_getElem hlt
                have hne2 := List.getElem?_eq_getElem hlt2
                generalize t.kids[k] = tk at hr1 hT1 hne
                generalize u.kids[k] = uk at hr2 hT2 hne2
                have HR1 := Lib.hid (rangeAt_below hr1 HS.out.below HHG.out)
                have HR2 := Lib.hid (rangeAt_below hr2 HS.out.below HHG2.out)
                have HT1 := Lib.hid (hT1.below HS.out.below)
                have HT2 := Lib.hid (hT2.below HS.out.below)
                have HD := Lib.hid (alikes_drop (b := false) hne hne2)
                have hks1 := sizes_mem hne
                have hks2 := sizes_mem hne2
                have hcap := HCAP.out
                have hcap2 := HCAP2.out
                have HL1 := Lib.hid (kids_len tk)
                have HL2 := Lib.hid (kids_len uk)
                have i1 : (0 : Int) ≤ (k : Int) := by omega
                have i2 : ((k : Int) < (t.kids.length : Int)) := by omega
                have i3 : ((k : Int) < (u.kids.length : Int)) := by omega
                clear hr1 hr2 hT1 hT2 hne hne2
                go_wp2_with fail
                refine wp_region_held_drew (S := fun W => Blk W w.heap.size (nodeCells t (.slice (some ⟨g, 0, none⟩) t.kids.length c1)) 31 ∧ Blk W (w.heap.size + 1) (nodeCells u (.slice (some ⟨g2, 0, none⟩) u.kids.length c2)) 31 ∧ W.rangeAt g (k * 5) (nodeCells tk x1) ∧ W.rangeAt g2 (k * 5) (nodeCells uk x2)) (by kernel_rfl) ⟨HS.out.one.drew, HS.out.two.drew, HR1.out, HR2.out⟩ (fun hS => ?_)
                refine wpAnyH_take (i := 0) (v := .pointer (some ⟨w.heap.size, 4, none⟩)) rfl (by kernel_rfl) (by kernel_rfl) (by kernel_rfl) (fun _ _ _ h => h) (Or.inl ⟨by rfl, fun W _ => by go_simp⟩) hS ?_
                refine wpAnyH_take (i := 1) (v := .slice (some ⟨g, 0, none⟩) t.kids.length c1) rfl (by kernel_rfl) (by kernel_rfl) (by kernel_rfl) (fun _ _ _ h => h) (Or.inl ⟨by rfl, fun W hW => by have hcx : W.cell? ⟨w.heap.size, 4, none⟩ = some (.slice (some ⟨g, 0, none⟩) t.kids.length c1) := hW.1.cell 4; go_simp⟩) hS ?_
                refine wpAnyH_take (i := 2) (v := .int .i64 k) rfl (by kernel_rfl) (by kernel_rfl) (by kernel_rfl) (fun _ _ _ h => h) (Or.inl ⟨by rfl, fun W _ => by go_simp⟩) hS ?_
                refine wpAnyH_take (i := 3) (v := .pointer (some ⟨g, k * 5, none⟩)) rfl (by kernel_rfl) (by kernel_rfl) (by kernel_rfl) (fun _ _ _ h => h) (Or.inl ⟨by rfl, fun W _ => by go_simp⟩) hS ?_
                refine wpAnyH_take (i := 4) (v := .agg (nodeCells tk x1).toArray) rfl (by kernel_rfl) (by kernel_rfl) (by kernel_rfl) (fun _ _ _ h => h) (yieldsIf_load_mid (cs := nodeCells tk x1) (by rfl) 31 (.tmp 55) rfl g (k * 5) (by go_simp) _ (fun W hW j v hj => hW.2.2.1 j v hj) Tryd.underlying31 rfl Tryd.sizeRef) hS ?_
                refine wpAnyH_take (i := 5) (v := .pointer (some ⟨w.heap.size + 1, 4, none⟩)) rfl (by kernel_rfl) (by kernel_rfl) (by kernel_rfl) (fun _ _ _ h => h) (Or.inl ⟨by rfl, fun W _ => by go_simp⟩) hS ?_
                refine wpAnyH_take (i := 6) (v := .slice (some ⟨g2, 0, none⟩) u.kids.length c2) rfl (by kernel_rfl) (by kernel_rfl) (by kernel_rfl) (fun _ _ _ h => h) (Or.inl ⟨by rfl, fun W hW => by have hcx : W.cell? ⟨w.heap.size + 1, 4, none⟩ = some (.slice (some ⟨g2, 0, none⟩) u.kids.length c2) := hW.2.1.cell 4; go_simp⟩) hS ?_
                refine wpAnyH_take (i := 7) (v := .int .i64 k) rfl (by kernel_rfl) (by kernel_rfl) (by kernel_rfl) (fun _ _ _ h => h) (Or.inl ⟨by rfl, fun W _ => by go_simp⟩) hS ?_
                refine wpAnyH_take (i := 8) (v := .pointer (some ⟨g2, k * 5, none⟩)) rfl (by kernel_rfl) (by kernel_rfl) (by kernel_rfl) (fun _ _ _ h => h) (Or.inl ⟨by rfl, fun W _ => by go_simp⟩) hS ?_
                refine wpAnyH_take (i := 9) (v := .agg (nodeCells uk x2).toArray) rfl (by kernel_rfl) (by kernel_rfl) (by kernel_rfl) (fun _ _ _ h => h) (yieldsIf_load_mid (cs := nodeCells uk x2) (by rfl) 31 (.tmp 60) rfl g2 (k * 5) (by go_simp) _ (fun W hW j v hj => hW.2.2.2 j v hj) Tryd.underlying31 rfl Tryd.sizeRef) hS ?_
                refine AnyH.one (i := 10) (by kernel_rfl) rfl (by rfl) (fun K hK => ?_)
                go_simp
                refine hK.out _ _ hS ?_
                clear hK K
                refine AnyH.one (i := 11) (by kernel_rfl) rfl (by rfl) (fun K hK => ?_)
                go_simp
                refine (HIH.out tk uk false (by have h2 := HTS.out; have h3 := HT.out; omega) (HT1.out.drew).kat (HT2.out.drew).kat (by have := HL1.out; have := HTS.out; have := HZ1.out; omega) (by have := HL2.out; have := HUS.out; have := HZ2.out; omega) (by have := HTS.out; have := HZ1.out; omega) (by have := HUS.out; have := HZ2.out; omega)).mono ?_
                rintro e w3 ⟨rfl, hb3⟩
                have HS3 := Lib.hid (HS.out.drew.call hb3)
                have HR13 := Lib.hid (rangeAt_below (w := wr.drew) HR1.out hb3 (by have := HHG.out; have := HS.out.below.size; show g < wr.heap.size; omega))
                have HR23 := Lib.hid (rangeAt_below (w := wr.drew) HR2.out hb3 (by have := HHG2.out; have := HS.out.below.size; show g2 < wr.heap.size; omega))
                clear hb3
                refine hK.out _ _ ⟨HS3.out.one, HS3.out.two, HR13.out, HR23.out⟩ ?_
                clear hK K
                refine AnyH.one (i := 12) (by kernel_rfl) rfl (by rfl) (fun K hK => ?_)
                go_simp
                refine hK.out _ _ ⟨HS3.out.one, HS3.out.two, HR13.out, HR23.out⟩ ?_
                clear hK K
                refine wpAnyH_done (by kernel_rfl) ?_ _
                clear hS
                cases hq : alikeB false tk uk with
                | false =>
                  have HF := Lib.hid (show alikeB false t u = false by rw [HAL.out, HR.out, HD.out, hq]; rfl)
                  go_wp2
                  go_ret
                  exact ⟨ret_bool HF.out.symm, HS3.out.below⟩
                | true =>
                  have HF := Lib.hid (show alikesB false t.kids u.kids = alikesB false (t.kids.drop (k + 1)) (u.kids.drop (k + 1)) by rw [HR.out, HD.out, hq]; rfl)
                  go_wp2
                  go_roundg (gk - 1)
                  case measure => omega
                  case rel => exact ⟨k + 1, by omega, by omega, by go_num, HF.out, HS3.out⟩
              · have HF := Lib.hid (show alikeB false t u = true by rw [HAL.out, HR.out, List.drop_of_length_le (show t.kids.length ≤ k by omega), alikes_nil])
                go_wp2
                go_ret
                exact ⟨ret_bool HF.out.symm, HS.out.below⟩
          ·
            unfold NodeV
            go_enter Tryd.func16, Tryd.ntmps16
            go_wp2_with fail
            go_loopg [49] t.kids.length (fun gk i wr => AlRel true w t u (.slice (some ⟨g, 0, none⟩) t.kids.length c1) (.slice (some ⟨g2, 0, none⟩) u.kids.length c2) gk i wr)
            case atStart => exact ⟨0, by omega, by omega, rfl, rfl, HNEW.out⟩
            case round =>
              obtain ⟨k, hk, hgk, rfl, hrest, hst⟩ := hrel
              have HS := Lib.hid hst
              have HR := Lib.hid hrest
              have hzw := hst.lt
              clear hst hrest
              by_cases hlt : k < t.kids.length
              · have hlt2 : k < u.kids.length := by have := H5.out; omega
                obtain ⟨x1, hr1, hT1⟩ := HG.out k t.kids[k] (List.getElem?_eq_getElem hlt)
                obtain ⟨x2, hr2, hT2⟩ := HG2.out k u.kids[k] (List.getElem?_eq_getElem hlt2)
                have hne := List.getElem?_eq_getElem hlt
                have hne2 := List.getElem?_eq_getElem hlt2
                generalize t.kids[k] = tk at hr1 hT1 hne
                generalize u.kids[k] = uk at hr2 hT2 hne2
                have HR1 := Lib.hid (rangeAt_below hr1 HS.out.below HHG.out)
                have HR2 := Lib.hid (rangeAt_below hr2 HS.out.below HHG2.out)
                have HT1 := Lib.hid (hT1.below HS.out.below)
                have HT2 := Lib.hid (hT2.below HS.out.below)
                have HD := Lib.hid (alikes_drop (b := true) hne hne2)
                have hks1 := sizes_mem hne
                have hks2 := sizes_mem hne2
                have hcap := HCAP.out
                have hcap2 := HCAP2.out
                have HL1 := Lib.hid (kids_len tk)
                have HL2 := Lib.hid (kids_len uk)
                have i1 : (0 : Int) ≤ (k : Int) := by omega
                have i2 : ((k : Int) < (t.kids.length : Int)) := by omega
                have i3 : ((k : Int) < (u.kids.length : Int)) := by omega
                clear hr1 hr2 hT1 hT2 hne hne2
                go_wp2_with fail
                refine wp_region_held_drew (S := fun W => Blk W w.heap.size (nodeCells t (.slice (some ⟨g, 0, none⟩) t.kids.length c1)) 31 ∧ Blk W (w.heap.size + 1) (nodeCells u (.slice (some ⟨g2, 0, none⟩) u.kids.length c2)) 31 ∧ W.rangeAt g (k * 5) (nodeCells tk x1) ∧ W.rangeAt g2 (k * 5) (nodeCells uk x2)) (by kernel_rfl) ⟨HS.out.one.drew, HS.out.two.drew, HR1.out, HR2.out⟩ (fun hS => ?_)
                refine wpAnyH_take (i := 0) (v := .pointer (some ⟨w.heap.size, 4, none⟩)) rfl (by kernel_rfl) (by kernel_rfl) (by kernel_rfl) (fun _ _ _ h => h) (Or.inl ⟨by rfl, fun W _ => by go_simp⟩) hS ?_
                refine wpAnyH_take (i := 1) (v := .slice (some ⟨g, 0, none⟩) t.kids.length c1) rfl (by kernel_rfl) (by kernel_rfl) (by kernel_rfl) (fun _ _ _ h => h) (Or.inl ⟨by rfl, fun W hW => by have hcx : W.cell? ⟨w.heap.size, 4, none⟩ = some (.slice (some ⟨g, 0, none⟩) t.kids.length c1) := hW.1.cell 4; go_simp⟩) hS ?_
                refine wpAnyH_take (i := 2) (v := .int .i64 k) rfl (by kernel_rfl) (by kernel_rfl) (by kernel_rfl) (fun _ _ _ h => h) (Or.inl ⟨by rfl, fun W _ => by go_simp⟩) hS ?_
                refine wpAnyH_take (i := 3) (v := .pointer (some ⟨g, k * 5, none⟩)) rfl (by kernel_rfl) (by kernel_rfl) (by kernel_rfl) (fun _ _ _ h => h) (Or.inl ⟨by rfl, fun W _ => by go_simp⟩) hS ?_
                refine wpAnyH_take (i := 4) (v := .agg (nodeCells tk x1).toArray) rfl (by kernel_rfl) (by kernel_rfl) (by kernel_rfl) (fun _ _ _ h => h) (yieldsIf_load_mid (cs := nodeCells tk x1) (by rfl) 31 (.tmp 55) rfl g (k * 5) (by go_simp) _ (fun W hW j v hj => hW.2.2.1 j v hj) Tryd.underlying31 rfl Tryd.sizeRef) hS ?_
                refine wpAnyH_take (i := 5) (v := .pointer (some ⟨w.heap.size + 1, 4, none⟩)) rfl (by kernel_rfl) (by kernel_rfl) (by kernel_rfl) (fun _ _ _ h => h) (Or.inl ⟨by rfl, fun W _ => by go_simp⟩) hS ?_
                refine wpAnyH_take (i := 6) (v := .slice (some ⟨g2, 0, none⟩) u.kids.length c2) rfl (by kernel_rfl) (by kernel_rfl) (by kernel_rfl) (fun _ _ _ h => h) (Or.inl ⟨by rfl, fun W hW => by have hcx : W.cell? ⟨w.heap.size + 1, 4, none⟩ = some (.slice (some ⟨g2, 0, none⟩) u.kids.length c2) := hW.2.1.cell 4; go_simp⟩) hS ?_
                refine wpAnyH_take (i := 7) (v := .int .i64 k) rfl (by kernel_rfl) (by kernel_rfl) (by kernel_rfl) (fun _ _ _ h => h) (Or.inl ⟨by rfl, fun W _ => by go_simp⟩) hS ?_
                refine wpAnyH_take (i := 8) (v := .pointer (some ⟨g2, k * 5, none⟩)) rfl (by kernel_rfl) (by kernel_rfl) (by kernel_rfl) (fun _ _ _ h => h) (Or.inl ⟨by rfl, fun W _ => by go_simp⟩) hS ?_
                refine wpAnyH_take (i := 9) (v := .agg (nodeCells uk x2).toArray) rfl (by kernel_rfl) (by kernel_rfl) (by kernel_rfl) (fun _ _ _ h => h) (yieldsIf_load_mid (cs := nodeCells uk x2) (by rfl) 31 (.tmp 60) rfl g2 (k * 5) (by go_simp) _ (fun W hW j v hj => hW.2.2.2 j v hj) Tryd.underlying31 rfl Tryd.sizeRef) hS ?_
                refine AnyH.one (i := 10) (by kernel_rfl) rfl (by rfl) (fun K hK => ?_)
                go_simp
                refine hK.out _ _ hS ?_
                clear hK K
                refine AnyH.one (i := 11) (by kernel_rfl) rfl (by rfl) (fun K hK => ?_)
                go_simp
                refine (HIH.out tk uk true (by have h2 := HTS.out; have h3 := HT.out; omega) (HT1.out.drew).kat (HT2.out.drew).kat (by have := HL1.out; have := HTS.out; have := HZ1.out; omega) (by have := HL2.out; have := HUS.out; have := HZ2.out; omega) (by have := HTS.out; have := HZ1.out; omega) (by have := HUS.out; have := HZ2.out; omega)).mono ?_
                rintro e w3 ⟨rfl, hb3⟩
                have HS3 := Lib.hid (HS.out.drew.call hb3)
                have HR13 := Lib.hid (rangeAt_below (w := wr.drew) HR1.out hb3 (by have := HHG.out; have := HS.out.below.size; show g < wr.heap.size; omega))
                have HR23 := Lib.hid (rangeAt_below (w := wr.drew) HR2.out hb3 (by have := HHG2.out; have := HS.out.below.size; show g2 < wr.heap.size; omega))
                clear hb3
                refine hK.out _ _ ⟨HS3.out.one, HS3.out.two, HR13.out, HR23.out⟩ ?_
                clear hK K
                refine AnyH.one (i := 12) (by kernel_rfl) rfl (by rfl) (fun K hK => ?_)
                go_simp
                refine hK.out _ _ ⟨HS3.out.one, HS3.out.two, HR13.out, HR23.out⟩ ?_
                clear hK K
                refine wpAnyH_done (by kernel_rfl) ?_ _
                clear hS
                cases hq : alikeB true tk uk with
                | false =>
                  have HF := Lib.hid (show alikeB true t u = false by rw [HAL.out, HR.out, HD.out, hq]; rfl)
                  go_wp2
                  go_ret
                  exact ⟨ret_bool HF.out.symm, HS3.out.below⟩
                | true =>
                  have HF := Lib.hid (show alikesB true t.kids u.kids = alikesB true (t.kids.drop (k + 1)) (u.kids.drop (k + 1)) by rw [HR.out, HD.out, hq]; rfl)
                  go_wp2
                  go_roundg (gk - 1)
                  case measure => omega
                  case rel => exact ⟨k + 1, by omega, by omega, by go_num, HF.out, HS3.out⟩
              · have HF := Lib.hid (show alikeB true t u = true by rw [HAL.out, HR.out, List.drop_of_length_le (show t.kids.length ≤ k by omega), alikes_nil])
                go_wp2
                go_ret
                exact ⟨ret_bool HF.out.symm, HS.out.below⟩
end

end Go.Proofs.YtnmpfpnldcgbaaaDoor
