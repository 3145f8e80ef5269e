/- The contracts of lychgatelaw02.moved and lychgatelaw02.inside where the trees are so: they return true; nothing that was there is changed. -/
import Derived.Test.YtflhniiemmahmaaDoorAlike
import Derived.Test.YtflhniiemmahmaaDoorPlaces
namespace Go.Proofs.YtflhniiemmahmaaDoor
open Go.RowKit

structure MvSt (w : World) (t u : T) (kv ku : Value) (W : World) : Prop where
  below : Below w.heap.size w W
  one : Blk W w.heap.size (nodeCells t kv) 25
  two : Blk W (w.heap.size + 1) (nodeCells u ku) 25
section
variable {w W W' : World} {t u : T} {kv ku : Value}
theorem MvSt.drew (h : MvSt w t u kv ku W) : MvSt w t u kv ku W.drew := ⟨h.below.drew, h.one.drew, h.two.drew⟩
theorem MvSt.call (h : MvSt w t u kv ku W) (hb : Below W.heap.size W W') : MvSt w t u kv ku W' := ⟨h.below.trans (hb.mono h.below.size), h.one.below hb, h.two.below hb⟩
theorem MvSt.lt (h : MvSt w t u kv ku W) : w.heap.size + 1 < W.heap.size := h.two.lt
end
theorem mvSt_new (w : World) (t u : T) (kv ku : Value) : MvSt w t u kv ku ((w.alloc (.cells (nodeCells t kv).toArray 25)).alloc (.cells (nodeCells u ku).toArray 25)) :=
  ⟨((Below.refl _ _).alloc (Nat.le_refl _) _).alloc (by simp) _, (Blk.new w _ _).alloc _, Blk.new2 w _ _ _⟩
def MvRel (w : World) (t u : T) (kv ku : Value) (g : Nat) (i : Value) (wr : World) : Prop :=
  ∃ k : Nat, k ≤ t.kids.length ∧ t.kids.length ≤ k + g ∧ i = .int .i64 k ∧ MvSt w t u kv ku wr

theorem moveds_get {n : Nat} : ∀ {ts us : List T} {k : Nat} {t u : T}, movedsB n ts us = true → ts[k]? = some t → us[k]? = some u → movedB n false t u = true
  | [], us, k, t, u, _, h, _ => by simp at h
  | a :: ts, [], k, t, u, _, _, h => by simp at h
  | a :: ts, b :: us, 0, t, u, hm, h, h' => by
    rw [moveds_cons, Bool.and_eq_true] at hm
    obtain rfl : a = t := by simpa using h
    obtain rfl : b = u := by simpa using h'
    exact hm.1
  | a :: ts, b :: us, k + 1, t, u, hm, h, h' => by
    rw [moveds_cons, Bool.and_eq_true] at hm
    exact moveds_get hm.2 (by simpa using h) (by simpa using h')
theorem insides_get {lo hi : Nat} : ∀ {ts : List T} {k : Nat} {t : T}, insidesB lo hi ts = true → ts[k]? = some t → insideB lo hi t = true
  | [], k, t, _, h => by simp at h
  | a :: ts, 0, t, hm, h => by
    rw [insides_cons, Bool.and_eq_true] at hm
    obtain rfl : a = t := by simpa using h
    exact hm.1
  | a :: ts, k + 1, t, hm, h => by
    rw [insides_cons, Bool.and_eq_true] at hm
    exact insides_get hm.2 (by simpa using h)

set_option maxRecDepth 100000 in
set_option maxHeartbeats 4000000 in
theorem moved_any (d hi : Nat) (hd : d ≤ 100) (hhi : hi ≤ 16384) : ∀ (n : Nat) (t u : T) (lo : Nat) (top : Bool), t.size ≤ n → ∀ {w : World} {S S' : Nat → Prop} {kv ku : Value}, KAt 25 w t.kids S kv → KAt 25 w u.kids S' ku → t.size ≤ 1000000 → movedB d top t u = true → insideB lo hi t = true →
    Calls Tryd.prog 16 #[NodeV t kv, NodeV u ku, .int .i64 d, .bool top] w fun e w' => e = .returned (.bool true) ∧ Below w.heap.size w w' := by
  intro n
  induction n with
  | zero => intro t u lo top ht; cases t; rw [size_mk] at ht; omega
  | succ n ih =>
    intro t u lo top ht w S S' kv ku hk hk2 hz1 hmv hin
    rw [moved_eq] at hmv
    rw [inside_eq] at hin
    simp only [Bool.and_eq_true, Bool.not_eq_true', decide_eq_true_eq] at hmv hin
    obtain ⟨h1, h2, h3, h5, h4, hmk⟩ := hmv
    obtain ⟨hi1, hi2, hik⟩ := hin
    have h5' : t.kids.length = u.kids.length := by simpa using h5
    obtain ⟨a1, c1, rfl⟩ := hk.len
    obtain ⟨a2, c2, rfl⟩ := hk2.len
    have HK := Lib.hid hk
    have HK2 := Lib.hid hk2
    have HT := Lib.hid ht
    have HZ1 := Lib.hid hz1
    have HIH := Lib.hid (@ih)
    have hts : t.size = 1 + sizes t.kids := by cases t; rw [size_mk]; rfl
    have HTS := Lib.hid hts
    have HNEW := Lib.hid (mvSt_new w t u (.slice a1 t.kids.length c1) (.slice a2 u.kids.length c2))
    have HMK := Lib.hid hmk
    have HIK := Lib.hid hik
    have hl1 : t.kids.length ≤ 1000000 := by have := kids_len t; omega
    have hl : ((t.kids.length : Int) != (u.kids.length : Int)) = false := by rw [h5']; simp
    have H5 := Lib.hid h5'
    have htop : top = true ∨ (top = false ∧ ((u.place : Int) != (t.place : Int) + (d : Int)) = false) := by
      cases top
      · refine .inr ⟨rfl, ?_⟩
        have : u.place = t.place + d := by simpa using h4
        rw [this]
        simp
      · exact .inl rfl
    clear hk hk2 ht ih hts hz1 h5 h4 hmk hik h5' hi1
    by_cases h0 : t.kids.length = 0
    · rw [← H5.out, h0] at *
      clear h0 HNEW HK HK2
      rcases htop with rfl | ⟨rfl, hp1⟩
      all_goals
        unfold NodeV
        go_enter Tryd.func16, Tryd.ntmps16
        go_wp2_with fail
        refine wp_loop_rounds 1 ?_
        rw [rounds_succ]
        go_wp2_with fail
        go_ret
        exact ⟨rfl, world2 _ _ _⟩
    · have hform1 := HK.out.form
      have hform2 := HK2.out.form
      rcases hform1 with ⟨_, hn⟩ | ⟨g, cap, hs1, hg, hcap, hcm, hget⟩
      · rw [hn] at h0; exact absurd rfl h0
      rcases hform2 with ⟨_, hn⟩ | ⟨g2, cap2, hs2, hg2, hcap2, hcm2, hget2⟩
      · have := H5.out; rw [hn] at this; exact absurd this h0
      cases hs1
      cases hs2
      have HG := Lib.hid hget
      have HG2 := Lib.hid hget2
      have HHG := Lib.hid hg
      have HHG2 := Lib.hid hg2
      have HCAP := Lib.hid hcap
      have HCAP2 := Lib.hid hcap2
      clear hget hget2 hg hg2 hcap hcap2 HK HK2 h0
      unfold maxLen at hcm hcm2
      have hu1 : u.kids.length ≤ 1000000 := by have := H5.out; omega
      rcases htop with rfl | ⟨rfl, hp1⟩
      all_goals
        unfold NodeV
        go_enter Tryd.func16, Tryd.ntmps16
        go_wp2_with fail
        go_loopg [54] t.kids.length (fun gk i wr => MvRel w t u (.slice (some ⟨g, 0, none⟩) t.kids.length c1) (.slice (some ⟨g2, 0, none⟩) u.kids.length c2) gk i wr)
        case atStart => exact ⟨0, by omega, by omega, rfl, HNEW.out⟩
        case round =>
          obtain ⟨k, hk, hgk, rfl, hst⟩ := hrel
          have HS := Lib.hid hst
          have hzw := hst.lt
          clear hst
          by_cases hlt : k < t.kids.length
          · have hlt2 : k < u.kids.length := by have := H5.out; omega
            obtain ⟨x1, hr1, hT1⟩ := HG.out k t.kids[k] (List.getElem?_eq_getElem hlt)
            obtain ⟨x2, hr2, hT2⟩ := HG2.out k u.kids[k] (List.getElem?_eq_getElem hlt2)
            have hne := List.getElem?_eq_getElem hlt
            have hne2 := List.getElem?_eq_getElem hlt2
            generalize t.kids[k] = tk at hr1 hT1 hne
            generalize u.kids[k] = uk at hr2 hT2 hne2
            have HR1 := Lib.hid (rangeAt_below hr1 HS.out.below HHG.out)
            have HR2 := Lib.hid (rangeAt_below hr2 HS.out.below HHG2.out)
            have HT1 := Lib.hid (hT1.below HS.out.below)
            have HT2 := Lib.hid (hT2.below HS.out.below)
            have HMV := Lib.hid (moveds_get HMK.out hne hne2)
            have HIN := Lib.hid (insides_get HIK.out hne)
            have hks1 := sizes_mem hne
            have hcap := HCAP.out
            have hcap2 := HCAP2.out
            have i1 : (0 : Int) ≤ (k : Int) := by omega
            have i2 : ((k : Int) < (t.kids.length : Int)) := by omega
            have i3 : ((k : Int) < (u.kids.length : Int)) := by omega
            clear hr1 hr2 hT1 hT2 hne hne2
            go_wp2_with fail
            refine wp_region_held_drew (S := fun W => Blk W w.heap.size (nodeCells t (.slice (some ⟨g, 0, none⟩) t.kids.length c1)) 25 ∧ Blk W (w.heap.size + 1) (nodeCells u (.slice (some ⟨g2, 0, none⟩) u.kids.length c2)) 25 ∧ W.rangeAt g (k * 5) (nodeCells tk x1) ∧ W.rangeAt g2 (k * 5) (nodeCells uk x2)) (by kernel_rfl) ⟨HS.out.one.drew, HS.out.two.drew, HR1.out, HR2.out⟩ (fun hS => ?_)
            refine wpAnyH_take (i := 0) (v := .pointer (some ⟨w.heap.size, 4, none⟩)) rfl (by kernel_rfl) (by kernel_rfl) (by kernel_rfl) (fun _ _ _ h => h) (Or.inl ⟨by rfl, fun W _ => by go_simp⟩) hS ?_
            refine wpAnyH_take (i := 1) (v := .slice (some ⟨g, 0, none⟩) t.kids.length c1) rfl (by kernel_rfl) (by kernel_rfl) (by kernel_rfl) (fun _ _ _ h => h) (Or.inl ⟨by rfl, fun W hW => by have hcx : W.cell? ⟨w.heap.size, 4, none⟩ = some (.slice (some ⟨g, 0, none⟩) t.kids.length c1) := hW.1.cell 4; go_simp⟩) hS ?_
            refine wpAnyH_take (i := 2) (v := .int .i64 k) rfl (by kernel_rfl) (by kernel_rfl) (by kernel_rfl) (fun _ _ _ h => h) (Or.inl ⟨by rfl, fun W _ => by go_simp⟩) hS ?_
            refine wpAnyH_take (i := 3) (v := .pointer (some ⟨g, k * 5, none⟩)) rfl (by kernel_rfl) (by kernel_rfl) (by kernel_rfl) (fun _ _ _ h => h) (Or.inl ⟨by rfl, fun W _ => by go_simp⟩) hS ?_
            refine wpAnyH_take (i := 4) (v := .agg (nodeCells tk x1).toArray) rfl (by kernel_rfl) (by kernel_rfl) (by kernel_rfl) (fun _ _ _ h => h) (yieldsIf_load_mid (cs := nodeCells tk x1) (by rfl) 25 (.tmp 60) rfl g (k * 5) (by go_simp) _ (fun W hW j v hj => hW.2.2.1 j v hj) Tryd.underlying25 rfl Tryd.sizeNode) hS ?_
            refine wpAnyH_take (i := 5) (v := .pointer (some ⟨w.heap.size + 1, 4, none⟩)) rfl (by kernel_rfl) (by kernel_rfl) (by kernel_rfl) (fun _ _ _ h => h) (Or.inl ⟨by rfl, fun W _ => by go_simp⟩) hS ?_
            refine wpAnyH_take (i := 6) (v := .slice (some ⟨g2, 0, none⟩) u.kids.length c2) rfl (by kernel_rfl) (by kernel_rfl) (by kernel_rfl) (fun _ _ _ h => h) (Or.inl ⟨by rfl, fun W hW => by have hcx : W.cell? ⟨w.heap.size + 1, 4, none⟩ = some (.slice (some ⟨g2, 0, none⟩) u.kids.length c2) := hW.2.1.cell 4; go_simp⟩) hS ?_
            refine wpAnyH_take (i := 7) (v := .int .i64 k) rfl (by kernel_rfl) (by kernel_rfl) (by kernel_rfl) (fun _ _ _ h => h) (Or.inl ⟨by rfl, fun W _ => by go_simp⟩) hS ?_
            refine wpAnyH_take (i := 8) (v := .pointer (some ⟨g2, k * 5, none⟩)) rfl (by kernel_rfl) (by kernel_rfl) (by kernel_rfl) (fun _ _ _ h => h) (Or.inl ⟨by rfl, fun W _ => by go_simp⟩) hS ?_
            refine wpAnyH_take (i := 9) (v := .agg (nodeCells uk x2).toArray) rfl (by kernel_rfl) (by kernel_rfl) (by kernel_rfl) (fun _ _ _ h => h) (yieldsIf_load_mid (cs := nodeCells uk x2) (by rfl) 25 (.tmp 65) rfl g2 (k * 5) (by go_simp) _ (fun W hW j v hj => hW.2.2.2 j v hj) Tryd.underlying25 rfl Tryd.sizeNode) hS ?_
            refine AnyH.one (i := 10) (by kernel_rfl) rfl (by rfl) (fun K hK => ?_)
            go_simp
            refine hK.out _ _ hS ?_
            clear hK K
            refine AnyH.one (i := 11) (by kernel_rfl) rfl (by rfl) (fun K hK => ?_)
            go_simp
            refine (HIH.out tk uk t.place false (by have h2 := HTS.out; have h3 := HT.out; omega) (HT1.out.drew).kat (HT2.out.drew).kat (by have := HTS.out; have := HZ1.out; omega) HMV.out HIN.out).mono ?_
            rintro e w3 ⟨rfl, hb3⟩
            have HS3 := Lib.hid (HS.out.drew.call hb3)
            have HR13 := Lib.hid (rangeAt_below (w := wr.drew) HR1.out hb3 (by have := HHG.out; have := HS.out.below.size; show g < wr.heap.size; omega))
            have HR23 := Lib.hid (rangeAt_below (w := wr.drew) HR2.out hb3 (by have := HHG2.out; have := HS.out.below.size; show g2 < wr.heap.size; omega))
            clear hb3
            refine hK.out _ _ ⟨HS3.out.one, HS3.out.two, HR13.out, HR23.out⟩ ?_
            clear hK K
            refine AnyH.one (i := 12) (by kernel_rfl) rfl (by rfl) (fun K hK => ?_)
            go_simp
            refine hK.out _ _ ⟨HS3.out.one, HS3.out.two, HR13.out, HR23.out⟩ ?_
            clear hK K
            refine wpAnyH_done (by kernel_rfl) ?_ _
            clear hS
            go_wp2
            go_roundg (gk - 1)
            case measure => omega
            case rel => exact ⟨k + 1, by omega, by omega, by go_num, HS3.out⟩
          · go_wp2
            go_ret
            exact ⟨rfl, HS.out.below⟩

def InRel (w : World) (t : T) (kv : Value) (g : Nat) (i : Value) (wr : World) : Prop :=
  ∃ k : Nat, k ≤ t.kids.length ∧ t.kids.length ≤ k + g ∧ i = .int .i64 k ∧ Below w.heap.size w wr ∧ Blk wr w.heap.size (nodeCells t kv) 25

set_option maxRecDepth 100000 in
set_option maxHeartbeats 4000000 in
theorem inside_any (hi : Nat) : ∀ (n : Nat) (t : T) (lo : Nat), t.size ≤ n → ∀ {w : World} {S : Nat → Prop} {kv : Value}, KAt 25 w t.kids S kv → t.size ≤ 1000000 → insideB lo hi t = true →
    Calls Tryd.prog 17 #[NodeV t kv, .int .i64 lo, .int .i64 hi] w fun e w' => e = .returned (.bool true) ∧ Below w.heap.size w w' := by
  intro n
  induction n with
  | zero => intro t lo ht; cases t; rw [size_mk] at ht; omega
  | succ n ih =>
    intro t lo ht w S kv hk hz1 hin
    rw [inside_eq] at hin
    simp only [Bool.and_eq_true, decide_eq_true_eq] at hin
    obtain ⟨hi1, hi2, hik⟩ := hin
    have HIK := Lib.hid hik
    have HT := Lib.hid ht
    have HZ1 := Lib.hid hz1
    have HIH := Lib.hid (@ih)
    have hts : t.size = 1 + sizes t.kids := by cases t; rw [size_mk]; rfl
    have HTS := Lib.hid hts
    have hl1 : t.kids.length ≤ 1000000 := by have := kids_len t; omega
    have n1 : ¬ ((t.place : Int) < (lo : Int)) := by omega
    have n2 : ¬ ((hi : Int) < (t.place : Int)) := by omega
    rcases hk.form with ⟨rfl, hnil⟩ | ⟨g, cap, rfl, hg, hcap, hcm, hget⟩
    · clear hk ih ht hz1 hts hnil hik
      unfold NodeV
      go_enter Tryd.func17, Tryd.ntmps17
      go_wp2_with fail
      refine wp_loop_rounds 1 ?_
      rw [rounds_succ]
      go_wp2_with fail
      go_ret
      exact ⟨rfl, (Below.refl _ _).alloc (Nat.le_refl _) _⟩
    · have HG := Lib.hid hget
      have HCAP := Lib.hid hcap
      have HHG := Lib.hid hg
      have HNEW := Lib.hid (Blk.new w (nodeCells t (.slice (some ⟨g, 0, none⟩) t.kids.length cap)) 25)
      clear hk ih ht hz1 hts hget hcap hik hg
      unfold maxLen at hcm
      unfold NodeV
      go_enter Tryd.func17, Tryd.ntmps17
      go_wp2_with fail
      go_loopg [22] t.kids.length (fun gk i wr => InRel w t (.slice (some ⟨g, 0, none⟩) t.kids.length cap) gk i wr)
      case atStart => exact ⟨0, by omega, by omega, rfl, (Below.refl _ _).alloc (Nat.le_refl _) _, HNEW.out⟩
      case round =>
        obtain ⟨k, hk, hgk, rfl, hbel, hblk⟩ := hrel
        have HB := Lib.hid hbel
        have HBL := Lib.hid hblk
        have hzw := hblk.lt
        clear hbel hblk
        by_cases hlt : k < t.kids.length
        · obtain ⟨u, hr, hT⟩ := HG.out k t.kids[k] (List.getElem?_eq_getElem hlt)
          have hne := List.getElem?_eq_getElem hlt
          generalize t.kids[k] = tk at hr hT hne
          have HR := Lib.hid (rangeAt_below hr HB.out HHG.out)
          have HTK := Lib.hid (hT.below HB.out)
          have HIN := Lib.hid (insides_get HIK.out hne)
          have hcap := HCAP.out
          have hks := sizes_mem hne
          have cpl : wr.cell? ⟨w.heap.size, 3, none⟩ = some (.int .i64 t.place) := HBL.out.cell 3
          clear hr hT hne
          go_wp2_with (first
            | ((with_reducible refine at_ld 25 (.tmp 24) ?_); refine wpList_load_mid rfl 25 (.tmp 24) rfl g (k * 5) rfl (nodeCells tk u) _ HR.out Tryd.underlying25 rfl Tryd.sizeNode ?_)
            | ((with_reducible refine at_st 25 (.tmp 8) ?_); refine wpList_store_new rfl 25 (.tmp 8) (.tmp 25) rfl (nodeCells tk u) (old := zeroNodeCells) rfl rfl Tryd.sizeNode rfl (nodeCells_one _ _ HTK.out.kat.one) ?_)
            | ((with_reducible refine at_ld 25 (.tmp 8) ?_); refine wpList_load_blk rfl 25 (.tmp 8) rfl wr.heap.size (nodeCells tk u) rfl (Blk.new wr _ _) Tryd.underlying25 rfl Tryd.sizeNode ?_))
          refine (HIH.out tk t.place (by have h2 := HTS.out; have h3 := HT.out; omega) (HTK.out.alloc _).kat (by have h2 := HTS.out; have h3 := HZ1.out; omega) HIN.out).mono ?_
          rintro e w2 ⟨rfl, hb2⟩
          have HB2 := Lib.hid ((HB.out.alloc HB.out.size _).trans (hb2.mono (by have := HB.out.size; simp; omega)))
          have HBL2 := Lib.hid ((HBL.out.alloc _).below hb2)
          clear hb2 cpl
          go_wp2
          go_roundg (gk - 1)
          case measure => omega
          case rel => exact ⟨k + 1, by omega, by omega, by go_num, HB2.out, HBL2.out⟩
        · go_wp2
          go_ret
          exact ⟨rfl, HB.out⟩

end Go.Proofs.YtflhniiemmahmaaDoor
