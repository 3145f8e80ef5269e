/- The contract of lychgatelaw08.stands on a tree in memory. -/
import Derived.Test.YtnmpfpnldcgbaaaDoorLnkP
import Derived.Test.YtnmpfpnldcgbaaaDoorP25
namespace Go.Proofs.YtnmpfpnldcgbaaaDoor
open Go.RowKit

theorem standsBs_drop {p : Nat} {ks : List T} {k : Nat} {t : T} (h : ks[k]? = some t) : standsBs p (ks.drop k) = (t.standsB p || standsBs p (ks.drop (k + 1))) := by
  have hlt := (List.getElem?_eq_some_iff.1 h).1
  rw [List.drop_eq_getElem_cons hlt, (List.getElem?_eq_some_iff.1 h).2, standsBs_cons]
def StRel (w : World) (p : Nat) (ks : List T) (g : Nat) (i : Value) (wr : World) : Prop :=
  ∃ k : Nat, k ≤ ks.length ∧ ks.length ≤ k + g ∧ i = .int .i64 k ∧ standsBs p ks = standsBs p (ks.drop k) ∧ Below w.heap.size w wr

set_option maxRecDepth 100000 in
set_option maxHeartbeats 2000000 in
theorem stands_any (p : Nat) : ∀ (n : Nat) (t : T), t.size ≤ n → ∀ {w : World} {S : Nat → Prop} {kv : Value}, KAt 25 w t.kids S kv → t.size ≤ 100000 →
    Calls Tryd.prog 27 #[NodeV t kv, .int .i64 p] w fun e w' => e = .returned (.bool (t.standsB p)) ∧ Below w.heap.size w w' := by
  intro n
  induction n with
  | zero => intro t ht; cases t; rw [size_mk] at ht; omega
  | succ n ih =>
    intro t ht w S kv hk hbig
    have hts : t.size = 1 + sizes t.kids := by cases t; rw [size_mk]; rfl
    have hct := stands_eq p t
    have HTS := Lib.hid hts
    have HT := Lib.hid ht
    have HBIG := Lib.hid hbig
    have HIH := Lib.hid (@ih)
    have hkl := len_sizes t.kids
    have hkl2 : t.kids.length ≤ 100000 := by omega
    unfold NodeV
    generalize t.kind = kk at *
    generalize t.place = q at *
    have h4 : (((q : Int) == (p : Int)) = false) ∨ (q = p ∧ kk = 6) ∨ (q = p ∧ (kk == 6) = false ∧ decide (10 ≤ kk) = true ∧ decide (kk ≤ 20) = true) ∨ (q = p ∧ (kk == 6) = false ∧ decide (10 ≤ kk) = false) ∨ (q = p ∧ (kk == 6) = false ∧ decide (10 ≤ kk) = true ∧ decide (kk ≤ 20) = false) := by
      simp only [beq_eq_false_iff_ne, ne_eq, decide_eq_true_eq, decide_eq_false_iff_not]; omega
    rcases h4 with b0 | ⟨rfl, rfl⟩ | ⟨rfl, b1, b2, b3⟩ | ⟨rfl, b1, b2⟩ | ⟨rfl, b1, b2, b3⟩
    · have hq : (q == p) = false := by simp at b0 ⊢; omega
      have hown : ownB p kk q = false := by unfold ownB; rw [hq]; rfl
      rw [hown] at hct
      clear hown hq
      rcases hk.form with ⟨rfl, hnil⟩ | ⟨g, cap, rfl, hg, hcap, hcm, hget⟩
      · have HN := Lib.hid hnil
        have HCT := Lib.hid hct
        clear hk ih ht hbig hts hnil hkl hkl2 hct
        go_enter Tryd.func27, Tryd.ntmps27
        go_wp2_with fail
        refine wp_loop_rounds 1 ?_
        rw [rounds_succ]
        go_wp2_with fail
        go_ret
        refine ⟨?_, (Below.refl _ _).alloc (Nat.le_refl _) _⟩
        rw [HCT.out, HN.out, standsBs_nil]
        rfl
      · have HG := Lib.hid hget
        have HCAP := Lib.hid hcap
        have HCT := Lib.hid hct
        clear hk ih ht hbig hts hget hkl hcap hct
        unfold maxLen at hcm
        go_enter Tryd.func27, Tryd.ntmps27
        go_wp2_with fail
        go_loopg [29] t.kids.length (fun gk i wr => StRel w p t.kids gk i wr)
        case atStart => exact ⟨0, by omega, by omega, rfl, by simp, (Below.refl _ _).alloc (Nat.le_refl _) _⟩
        case round =>
          obtain ⟨k, hk, hgk, rfl, hst, hbel⟩ := hrel
          have HB := Lib.hid hbel
          have HST := Lib.hid hst
          have hzw := hbel.size
          clear hbel hst
          by_cases hlt : k < t.kids.length
          · obtain ⟨u, hr, hT⟩ := HG.out k t.kids[k] (List.getElem?_eq_getElem hlt)
            have hne := List.getElem?_eq_getElem hlt
            generalize t.kids[k] = tk at hr hT hne
            have HR := Lib.hid (rangeAt_below hr ((HB.out.mono (Nat.le_refl _))) hg)
            have HTK := Lib.hid (hT.below (HB.out))
            have HDR := Lib.hid (standsBs_drop (p := p) hne)
            have hcap := HCAP.out
            have hks := sizes_mem hne
            clear hr hT hne
            go_wp2_with (first
              | ((with_reducible refine at_ld 25 (.tmp 31) ?_); refine wpList_load_mid rfl 25 (.tmp 31) rfl g (k * 5) rfl (nodeCells tk u) _ HR.out Tryd.underlying25 rfl Tryd.sizeNode ?_)
              | ((with_reducible refine at_st 25 (.tmp 6) ?_); refine wpList_store_new rfl 25 (.tmp 6) (.tmp 32) rfl (nodeCells tk u) (old := zeroNodeCells) rfl rfl Tryd.sizeNode rfl (nodeCells_one _ _ HTK.out.kat.one) ?_)
              | ((with_reducible refine at_ld 25 (.tmp 6) ?_); refine wpList_load_blk rfl 25 (.tmp 6) rfl wr.heap.size (nodeCells tk u) rfl (Blk.new wr _ _) Tryd.underlying25 rfl Tryd.sizeNode ?_))
            refine (HIH.out tk (by have h2 := HTS.out; have h3 := HT.out; omega) (HTK.out.alloc _).kat (by have h2 := HTS.out; have h3 := HBIG.out; omega)).mono ?_
            rintro e w2 ⟨rfl, hb2⟩
            have HB2 := Lib.hid ((HB.out.alloc hzw _).trans (hb2.mono (by simp; omega)))
            clear hb2
            cases hb : tk.standsB p with
            | true =>
              go_wp2_with fail
              go_ret
              exact ⟨by rw [HCT.out, HST.out, HDR.out, hb]; simp, HB2.out⟩
            | false =>
              go_wp2_with fail
              go_roundg (gk - 1)
              case measure => omega
              case rel => exact ⟨k + 1, by omega, by omega, by go_num, by rw [HST.out, HDR.out, hb]; rfl, HB2.out⟩
          · have HE := Lib.hid (show standsBs p t.kids = false by rw [HST.out, List.drop_of_length_le (by omega), standsBs_nil])
            go_wp2_with fail
            go_ret
            exact ⟨by rw [HCT.out, HE.out]; rfl, HB.out⟩
    · have hown : ownB q 6 q = true := by unfold ownB; simp
      rw [hown] at hct
      clear hown
      have HCT := Lib.hid hct
      have HB := Lib.hid (show Below w.heap.size w (w.alloc (.cells [.int .i64 6, .string t.text, .int .i64 t.num, .int .i64 q, kv].toArray 25)) from (Below.refl _ _).alloc (Nat.le_refl _) _)
      clear hk ih ht hbig hts hkl hkl2 hct
      go_enter Tryd.func27, Tryd.ntmps27
      go_wp2_with fail
      go_ret
      exact ⟨by rw [HCT.out]; rfl, HB.out⟩
    · have hown : ownB q kk q = true := by unfold ownB; rw [b1, b2, b3]; simp
      rw [hown] at hct
      clear hown
      have HCT := Lib.hid hct
      have HB := Lib.hid (show Below w.heap.size w (w.alloc (.cells [.int .i64 kk, .string t.text, .int .i64 t.num, .int .i64 q, kv].toArray 25)) from (Below.refl _ _).alloc (Nat.le_refl _) _)
      clear hk ih ht hbig hts hkl hkl2 hct
      go_enter Tryd.func27, Tryd.ntmps27
      go_wp2_with fail
      go_ret
      exact ⟨by rw [HCT.out]; rfl, HB.out⟩
    · have hown : ownB q kk q = false := by unfold ownB; rw [b1, b2]; simp
      rw [hown] at hct
      clear hown
      rcases hk.form with ⟨rfl, hnil⟩ | ⟨g, cap, rfl, hg, hcap, hcm, hget⟩
      · have HN := Lib.hid hnil
        have HCT := Lib.hid hct
        clear hk ih ht hbig hts hnil hkl hkl2 hct
        go_enter Tryd.func27, Tryd.ntmps27
        go_wp2_with fail
        refine wp_loop_rounds 1 ?_
        rw [rounds_succ]
        go_wp2_with fail
        go_ret
        refine ⟨?_, (Below.refl _ _).alloc (Nat.le_refl _) _⟩
        rw [HCT.out, HN.out, standsBs_nil]
        rfl
      · have HG := Lib.hid hget
        have HCAP := Lib.hid hcap
        have HCT := Lib.hid hct
        clear hk ih ht hbig hts hget hkl hcap hct
        unfold maxLen at hcm
        go_enter Tryd.func27, Tryd.ntmps27
        go_wp2_with fail
        go_loopg [29] t.kids.length (fun gk i wr => StRel w q t.kids gk i wr)
        case atStart => exact ⟨0, by omega, by omega, rfl, by simp, (Below.refl _ _).alloc (Nat.le_refl _) _⟩
        case round =>
          obtain ⟨k, hk, hgk, rfl, hst, hbel⟩ := hrel
          have HB := Lib.hid hbel
          have HST := Lib.hid hst
          have hzw := hbel.size
          clear hbel hst
          by_cases hlt : k < t.kids.length
          · obtain ⟨u, hr, hT⟩ := HG.out k t.kids[k] (List.getElem?_eq_getElem hlt)
            have hne := List.getElem?_eq_getElem hlt
            generalize t.kids[k] = tk at hr hT hne
            have HR := Lib.hid (rangeAt_below hr ((HB.out.mono (Nat.le_refl _))) hg)
            have HTK := Lib.hid (hT.below (HB.out))
            have HDR := Lib.hid (standsBs_drop (p := q) hne)
            have hcap := HCAP.out
            have hks := sizes_mem hne
            clear hr hT hne
            go_wp2_with (first
              | ((with_reducible refine at_ld 25 (.tmp 31) ?_); refine wpList_load_mid rfl 25 (.tmp 31) rfl g (k * 5) rfl (nodeCells tk u) _ HR.out Tryd.underlying25 rfl Tryd.sizeNode ?_)
              | ((with_reducible refine at_st 25 (.tmp 6) ?_); refine wpList_store_new rfl 25 (.tmp 6) (.tmp 32) rfl (nodeCells tk u) (old := zeroNodeCells) rfl rfl Tryd.sizeNode rfl (nodeCells_one _ _ HTK.out.kat.one) ?_)
              | ((with_reducible refine at_ld 25 (.tmp 6) ?_); refine wpList_load_blk rfl 25 (.tmp 6) rfl wr.heap.size (nodeCells tk u) rfl (Blk.new wr _ _) Tryd.underlying25 rfl Tryd.sizeNode ?_))
            refine (HIH.out tk (by have h2 := HTS.out; have h3 := HT.out; omega) (HTK.out.alloc _).kat (by have h2 := HTS.out; have h3 := HBIG.out; omega)).mono ?_
            rintro e w2 ⟨rfl, hb2⟩
            have HB2 := Lib.hid ((HB.out.alloc hzw _).trans (hb2.mono (by simp; omega)))
            clear hb2
            cases hb : tk.standsB q with
            | true =>
              go_wp2_with fail
              go_ret
              exact ⟨by rw [HCT.out, HST.out, HDR.out, hb]; simp, HB2.out⟩
            | false =>
              go_wp2_with fail
              go_roundg (gk - 1)
              case measure => omega
              case rel => exact ⟨k + 1, by omega, by omega, by go_num, by rw [HST.out, HDR.out, hb]; rfl, HB2.out⟩
          · have HE := Lib.hid (show standsBs q t.kids = false by rw [HST.out, List.drop_of_length_le (by omega), standsBs_nil])
            go_wp2_with fail
            go_ret
            exact ⟨by rw [HCT.out, HE.out]; rfl, HB.out⟩
    · have hown : ownB q kk q = false := by unfold ownB; rw [b1, b2, b3]; simp
      rw [hown] at hct
      clear hown
      rcases hk.form with ⟨rfl, hnil⟩ | ⟨g, cap, rfl, hg, hcap, hcm, hget⟩
      · have HN := Lib.hid hnil
        have HCT := Lib.hid hct
        clear hk ih ht hbig hts hnil hkl hkl2 hct
        go_enter Tryd.func27, Tryd.ntmps27
        go_wp2_with fail
        refine wp_loop_rounds 1 ?_
        rw [rounds_succ]
        go_wp2_with fail
        go_ret
        refine ⟨?_, (Below.refl _ _).alloc (Nat.le_refl _) _⟩
        rw [HCT.out, HN.out, standsBs_nil]
        rfl
      · have HG := Lib.hid hget
        have HCAP := Lib.hid hcap
        have HCT := Lib.hid hct
        clear hk ih ht hbig hts hget hkl hcap hct
        unfold maxLen at hcm
        go_enter Tryd.func27, Tryd.ntmps27
        go_wp2_with fail
        go_loopg [29] t.kids.length (fun gk i wr => StRel w q t.kids gk i wr)
        case atStart => exact ⟨0, by omega, by omega, rfl, by simp, (Below.refl _ _).alloc (Nat.le_refl _) _⟩
        case round =>
          obtain ⟨k, hk, hgk, rfl, hst, hbel⟩ := hrel
          have HB := Lib.hid hbel
          have HST := Lib.hid hst
          have hzw := hbel.size
          clear hbel hst
          by_cases hlt : k < t.kids.length
          · obtain ⟨u, hr, hT⟩ := HG.out k t.kids[k] (List.getElem?_eq_getElem hlt)
            have hne := List.getElem?_eq_getElem hlt
            generalize t.kids[k] = tk at hr hT hne
            have HR := Lib.hid (rangeAt_below hr ((HB.out.mono (Nat.le_refl _))) hg)
            have HTK := Lib.hid (hT.below (HB.out))
            have HDR := Lib.hid (standsBs_drop (p := q) hne)
            have hcap := HCAP.out
            have hks := sizes_mem hne
            clear hr hT hne
            go_wp2_with (first
              | ((with_reducible refine at_ld 25 (.tmp 31) ?_); refine wpList_load_mid rfl 25 (.tmp 31) rfl g (k * 5) rfl (nodeCells tk u) _ HR.out Tryd.underlying25 rfl Tryd.sizeNode ?_)
              | ((with_reducible refine at_st 25 (.tmp 6) ?_); refine wpList_store_new rfl 25 (.tmp 6) (.tmp 32) rfl (nodeCells tk u) (old := zeroNodeCells) rfl rfl Tryd.sizeNode rfl (nodeCells_one _ _ HTK.out.kat.one) ?_)
              | ((with_reducible refine at_ld 25 (.tmp 6) ?_); refine wpList_load_blk rfl 25 (.tmp 6) rfl wr.heap.size (nodeCells tk u) rfl (Blk.new wr _ _) Tryd.underlying25 rfl Tryd.sizeNode ?_))
            refine (HIH.out tk (by have h2 := HTS.out; have h3 := HT.out; omega) (HTK.out.alloc _).kat (by have h2 := HTS.out; have h3 := HBIG.out; omega)).mono ?_
            rintro e w2 ⟨rfl, hb2⟩
            have HB2 := Lib.hid ((HB.out.alloc hzw _).trans (hb2.mono (by simp; omega)))
            clear hb2
            cases hb : tk.standsB q with
            | true =>
              go_wp2_with fail
              go_ret
              exact ⟨by rw [HCT.out, HST.out, HDR.out, hb]; simp, HB2.out⟩
            | false =>
              go_wp2_with fail
              go_roundg (gk - 1)
              case measure => omega
              case rel => exact ⟨k + 1, by omega, by omega, by go_num, by rw [HST.out, HDR.out, hb]; rfl, HB2.out⟩
          · have HE := Lib.hid (show standsBs q t.kids = false by rw [HST.out, List.drop_of_length_le (by omega), standsBs_nil])
            go_wp2_with fail
            go_ret
            exact ⟨by rw [HCT.out, HE.out]; rfl, HB.out⟩

end Go.Proofs.YtnmpfpnldcgbaaaDoor
