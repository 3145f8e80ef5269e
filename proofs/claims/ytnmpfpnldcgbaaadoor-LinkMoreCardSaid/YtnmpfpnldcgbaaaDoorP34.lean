/- The contract of lychgatelaw07.wakes in a world that holds the tables of lex: it returns true, and changes nothing that was in memory. The contract of lychgatelaw07.count on a tree in memory. Plain facts on the code of a whole function: how many instructions, where its jumps go. Nothing of the program is walked here. -/
import Derived.Test.YtnmpfpnldcgbaaaDoorP23
import Derived.Test.YtnmpfpnldcgbaaaDoorP33
import Derived.Test.YtnmpfpnldcgbaaaDoorP30
import Derived.Test.YtnmpfpnldcgbaaaDoorP25
namespace Go.Proofs.YtnmpfpnldcgbaaaDoor
section
open Go.RowKit

def s7 : ByteArray := ⟨#[102, 110, 32, 102, 40, 41, 32, 123, 32, 105, 102, 32, 120, 32, 60, 32, 49, 32, 123, 32, 121, 32, 61, 32, 50, 59, 32, 125, 32, 122, 32, 61, 32, 51, 59, 32, 125]⟩
def fn7 : T := .mk 6 (bs [102]) 0 0 [.mk 8 e0 0 7 [], .mk 9 e0 0 7 [.mk 15 (bs [60]) 0 9 [.mk 5 (bs [120]) 0 12 [], .mk 5 e0 1 16 [], .mk 9 e0 0 18 [.mk 10 (bs [121]) 0 20 [.mk 5 e0 2 24 []]], .mk 9 e0 0 9 []], .mk 10 (bs [122]) 0 29 [.mk 5 e0 3 33 []]]]
def tree7 : T := .mk 0 e0 0 0 [fn7]
theorem parse_s7 : parseB s7 = (tree7, 0, 0) := by kernel_rfl
def ins7 : List Ins := [⟨10, 9, bs [60], e0, ⟨bs [120], 0⟩, ⟨e0, 1⟩, [], 3, false⟩, ⟨0, 20, bs [121], e0, ⟨e0, 2⟩, tm0, [], 0, false⟩, ⟨11, 9, e0, e0, tm0, tm0, [], 3, false⟩, ⟨0, 29, bs [122], e0, ⟨e0, 3⟩, tm0, [], 0, false⟩, ⟨14, 7, e0, e0, tm0, tm0, [], 0, false⟩]
theorem low_7 : lowerI fn7 = ⟨bs [102], [], ins7⟩ := by kernel_rfl
theorem whole_7 : tree7.whole := by have h := (parse_whole s7).2; rw [parse_s7] at h; exact h

set_option maxRecDepth 100000 in
set_option maxHeartbeats 2000000 in
theorem wakes7_any (w : World) (ht : Tabs w) :
    Calls Tryd.prog 21 #[] w fun e w' => e = .returned (.bool true) ∧ Below w.heap.size w w' := by
  have HT := Lib.hid ht
  go_enter Tryd.func21, Tryd.ntmps21
  go_wp2_with fail
  refine (parse_any s7 w (by unfold maxLen; decide) ht).mono ?_
  rw [parse_s7]
  rintro e w1 ⟨kv, rfl, hk, hb⟩
  have hk1 : KAt 25 w1 [fn7] (fun b => w.heap.size ≤ b) kv := hk
  obtain ⟨g1, c1, rfl, hg1, hc1, hm1, hget1⟩ := hk1.some1 (k := 0) rfl
  obtain ⟨u6, r6, hT6⟩ := hget1 0 fn7 rfl
  have HB := Lib.hid hb
  have HO := Lib.hid hk1.one
  have HLW := Lib.hid (lower_any (w := w1.alloc (.cells [.int .i64 0, .string e0, .int .i64 0, .int .i64 0, .slice (some ⟨g1, 0, none⟩) 1 c1].toArray 25)) (hT6.alloc _).kat (wholes_cons.1 (whole_eq.1 whole_7).2).1 (by decide))
  have hf2 := fldCod2
  have hlow := low_7
  clear hk hk1 hb hget1 hT6 ht
  have HR6 := Lib.hid (show (w1.alloc (.cells [.int .i64 0, .string e0, .int .i64 0, .int .i64 0, .slice (some ⟨g1, 0, none⟩) 1 c1].toArray 25)).rangeAt g1 0 (nodeCells fn7 u6) from rangeAt_below r6 ((Below.refl _ _).alloc (Nat.le_refl _) _) hg1)
  have HB1 := Lib.hid (HB.out.alloc HB.out.size (.cells [.int .i64 0, .string e0, .int .i64 0, .int .i64 0, .slice (some ⟨g1, 0, none⟩) 1 c1].toArray 25))
  unfold NodeV
  go_wp2_with (first
    | ((with_reducible refine at_st 25 (.tmp 1) ?_); refine wpList_store_new rfl 25 (.tmp 1) (.tmp 7) rfl [.int .i64 0, .string e0, .int .i64 0, .int .i64 0, .slice (some ⟨g1, 0, none⟩) 1 c1] (old := zeroNodeCells) rfl rfl Tryd.sizeNode rfl (nodeCells_one tree7 _ rfl) ?_)
    | ((with_reducible refine at_ld 25 (.tmp 20) ?_); refine wpList_load_mid rfl 25 (.tmp 20) rfl g1 0 rfl (nodeCells fn7 u6) _ HR6.out Tryd.underlying25 rfl Tryd.sizeNode ?_))
  refine HLW.out.mono ?_
  rintro e w2 ⟨pv, lv, rfl, hc, hb2⟩
  rw [hlow] at hc
  have HB2 := Lib.hid (HB1.out.trans (hb2.mono HB1.out.size))
  rcases hc.2.form with ⟨_, hnil⟩ | ⟨g, cap, rfl, hg, hcap, hcm, hget⟩
  · exact absurd hnil (by unfold ins7; simp)
  obtain ⟨ua, ra, _⟩ := hget 0 _ rfl
  obtain ⟨uc, rc, _⟩ := hget 2 _ rfl
  obtain ⟨ud, rd, _⟩ := hget 3 _ rfl
  obtain ⟨ue, re, _⟩ := hget 4 _ rfl
  have m0 : w2.cell? ⟨g, 0, none⟩ = some (.int .i64 10) := ra 0 _ rfl
  have m1 : w2.cell? ⟨g, 9, none⟩ = some (.int .i64 3) := ra 9 _ rfl
  have m2 : w2.cell? ⟨g, 22, none⟩ = some (.int .i64 11) := rc 0 _ rfl
  have m3 : w2.cell? ⟨g, 31, none⟩ = some (.int .i64 3) := rc 9 _ rfl
  have m4 : w2.cell? ⟨g, 35, none⟩ = some (.string ⟨#[122]⟩) := rd 2 _ rfl
  have m5 : w2.cell? ⟨g, 44, none⟩ = some (.int .i64 14) := re 0 _ rfl
  have hl5 : ins7.length = 5 := rfl
  have hz2 := hb2.size
  rw [hl5] at hcap ⊢
  clear hget ra rc rd re hc hb2
  unfold CodV
  unfold maxLen at hcm
  go_wp2_with fail
  go_ret
  exact ⟨rfl, HB2.out⟩
end

section
open Go.RowKit

theorem ccount_le : ∀ t : T, t.count ≤ 2 * t.size
  | .mk k s n p ks => by
    rw [count_eq, size_mk]
    have h : counts ks ≤ 2 * sizes ks := ccounts_le ks
    have h2 : ownCount k ≤ 2 := by
      unfold ownCount
      cases (k == 15 || k == 16) with
      | true => exact Nat.le_refl _
      | false =>
        cases (decide (10 ≤ k) && decide (k ≤ 20)) with
        | true => exact Nat.le_succ _
        | false => exact Nat.zero_le _
    show ownCount k + counts ks ≤ _
    omega
where ccounts_le : ∀ ks : List T, counts ks ≤ 2 * sizes ks
  | [] => by rw [counts_nil]; omega
  | t :: ts => by
    rw [counts_cons, sizes_cons]
    have := ccount_le t
    have := ccounts_le ts
    omega
theorem counts_take (ks : List T) (k : Nat) (t : T) (h : ks[k]? = some t) : counts (ks.take (k + 1)) = counts (ks.take k) + t.count := by
  have hlt := (List.getElem?_eq_some_iff.1 h).1
  rw [List.take_succ_eq_append_getElem hlt, counts_append, counts_cons, counts_nil, (List.getElem?_eq_some_iff.1 h).2]
  omega
def CountRel (w : World) (c : Nat) (ks : List T) (g : Nat) (s i : Value) (wr : World) : Prop :=
  ∃ k : Nat, k ≤ ks.length ∧ ks.length ≤ k + g ∧ i = .int .i64 k ∧ s = .int .i64 ((c + counts (ks.take k) : Nat) : Int) ∧ Below w.heap.size w wr

set_option maxRecDepth 100000 in
set_option maxHeartbeats 4000000 in
theorem count_any : ∀ (n : Nat) (t : T), t.size ≤ n → ∀ {w : World} {S : Nat → Prop} {kv : Value}, KAt 25 w t.kids S kv → t.size ≤ 100000 →
    Calls Tryd.prog 23 #[NodeV t kv] w fun e w' => e = .returned (.int .i64 t.count) ∧ Below w.heap.size w w' := by
  intro n
  induction n with
  | zero => intro t ht; cases t; rw [size_mk] at ht; omega
  | succ n ih =>
    intro t ht w S kv hk hbig
    have hts : t.size = 1 + sizes t.kids := by cases t; rw [size_mk]; rfl
    have hct := count_eq t
    have HTS := Lib.hid hts
    have HT := Lib.hid ht
    have HBIG := Lib.hid hbig
    have HIH := Lib.hid (@ih)
    have hkl := len_sizes t.kids
    have hkl2 : t.kids.length ≤ 100000 := by omega
    unfold NodeV
    generalize t.kind = kk at *
    have h4 : kk = 15 ∨ kk = 16 ∨ ((kk == 15) = false ∧ (kk == 16) = false ∧ decide (10 ≤ kk) = true ∧ decide (kk ≤ 20) = true) ∨ ((kk == 15) = false ∧ (kk == 16) = false ∧ decide (10 ≤ kk) = false) ∨ ((kk == 15) = false ∧ (kk == 16) = false ∧ decide (10 ≤ kk) = true ∧ decide (kk ≤ 20) = false) := by
      simp only [beq_eq_false_iff_ne, ne_eq, decide_eq_true_eq, decide_eq_false_iff_not]; omega
    rcases h4 with rfl | rfl | ⟨b1, b2, b3, b4⟩ | ⟨b1, b2, b3⟩ | ⟨b1, b2, b3, b4⟩
    · have hc2 : ownCount 15 = 2 := rfl
      rw [hc2] at hct
      clear hc2
      rcases hk.form with ⟨rfl, hnil⟩ | ⟨g, cap, rfl, hg, hcap, hcm, hget⟩
      · have HN := Lib.hid hnil
        have HCT := Lib.hid hct
        clear hk ih ht hbig hts hnil hkl hkl2 hct
        go_enter Tryd.func23, Tryd.ntmps23
        go_wp2_with fail
        refine wp_loop_rounds 1 ?_
        rw [rounds_succ]
        go_wp2_with fail
        go_ret
        refine ⟨?_, (Below.refl _ _).alloc (Nat.le_refl _) _⟩
        rw [HCT.out, HN.out, counts_nil]
        rfl
      · have HG := Lib.hid hget
        have HCAP := Lib.hid hcap
        have HCT := Lib.hid hct
        clear hk ih ht hbig hts hget hkl hcap hct
        unfold maxLen at hcm
        go_enter Tryd.func23, Tryd.ntmps23
        go_wp2_with fail
        go_loopg [3, 27] t.kids.length (fun gk s i wr => CountRel w 2 t.kids gk s i wr)
        case atStart => exact ⟨0, by omega, by omega, rfl, by rw [List.take_zero, counts_nil]; rfl, (Below.refl _ _).alloc (Nat.le_refl _) _⟩
        case round =>
          obtain ⟨k, hk, hgk, rfl, rfl, hbel⟩ := hrel
          have HB := Lib.hid hbel
          have hzw := hbel.size
          have hsl : counts (t.kids.take k) ≤ 200000 := by have h1 := sizes_take_le t.kids k; have h2 := HTS.out; have h3 := HBIG.out; have h4 := ccount_le.ccounts_le (t.kids.take k); omega
          clear hbel
          by_cases hlt : k < t.kids.length
          · obtain ⟨u, hr, hT⟩ := HG.out k t.kids[k] (List.getElem?_eq_getElem hlt)
            have hne := List.getElem?_eq_getElem hlt
            generalize t.kids[k] = tk at hr hT hne
            have HR := Lib.hid (rangeAt_below hr ((HB.out.mono (Nat.le_refl _))) hg)
            have HTK := Lib.hid (hT.below (HB.out))
            have HNE := Lib.hid hne
            have hcap := HCAP.out
            have hks := sizes_mem hne
            clear hr hT hne
            go_wp2_with (first
              | ((with_reducible refine at_ld 25 (.tmp 29) ?_); refine wpList_load_mid rfl 25 (.tmp 29) rfl g (k * 5) rfl (nodeCells tk u) _ HR.out Tryd.underlying25 rfl Tryd.sizeNode ?_)
              | ((with_reducible refine at_st 25 (.tmp 5) ?_); refine wpList_store_new rfl 25 (.tmp 5) (.tmp 30) rfl (nodeCells tk u) (old := zeroNodeCells) rfl rfl Tryd.sizeNode rfl (nodeCells_one _ _ HTK.out.kat.one) ?_)
              | ((with_reducible refine at_ld 25 (.tmp 5) ?_); refine wpList_load_blk rfl 25 (.tmp 5) rfl wr.heap.size (nodeCells tk u) rfl (Blk.new wr _ _) Tryd.underlying25 rfl Tryd.sizeNode ?_))
            refine (HIH.out tk (by have h2 := HTS.out; have h3 := HT.out; omega) (HTK.out.alloc _).kat (by have h2 := HTS.out; have h3 := HBIG.out; omega)).mono ?_
            rintro e w2 ⟨rfl, hb2⟩
            have HB2 := Lib.hid ((HB.out.alloc hzw _).trans (hb2.mono (by simp; omega)))
            have hks2 : tk.count ≤ 200000 := by have h2 := HTS.out; have h3 := HBIG.out; have h4 := ccount_le tk; omega
            clear hb2
            go_wp2
            go_roundg (gk - 1)
            case measure => omega
            case rel =>
              refine ⟨k + 1, by omega, by omega, by go_num, ?_, HB2.out⟩
              rw [counts_take _ _ _ HNE.out]
              go_num
          · have HE := Lib.hid (show t.kids.take k = t.kids from List.take_of_length_le (by omega))
            go_wp2
            go_ret
            exact ⟨by rw [HCT.out, HE.out]; rfl, HB.out⟩
    · have hc2 : ownCount 16 = 2 := rfl
      rw [hc2] at hct
      clear hc2
      rcases hk.form with ⟨rfl, hnil⟩ | ⟨g, cap, rfl, hg, hcap, hcm, hget⟩
      · have HN := Lib.hid hnil
        have HCT := Lib.hid hct
        clear hk ih ht hbig hts hnil hkl hkl2 hct
        go_enter Tryd.func23, Tryd.ntmps23
        go_wp2_with fail
        refine wp_loop_rounds 1 ?_
        rw [rounds_succ]
        go_wp2_with fail
        go_ret
        refine ⟨?_, (Below.refl _ _).alloc (Nat.le_refl _) _⟩
        rw [HCT.out, HN.out, counts_nil]
        rfl
      · have HG := Lib.hid hget
        have HCAP := Lib.hid hcap
        have HCT := Lib.hid hct
        clear hk ih ht hbig hts hget hkl hcap hct
        unfold maxLen at hcm
        go_enter Tryd.func23, Tryd.ntmps23
        go_wp2_with fail
        go_loopg [3, 27] t.kids.length (fun gk s i wr => CountRel w 2 t.kids gk s i wr)
        case atStart => exact ⟨0, by omega, by omega, rfl, by rw [List.take_zero, counts_nil]; rfl, (Below.refl _ _).alloc (Nat.le_refl _) _⟩
        case round =>
          obtain ⟨k, hk, hgk, rfl, rfl, hbel⟩ := hrel
          have HB := Lib.hid hbel
          have hzw := hbel.size
          have hsl : counts (t.kids.take k) ≤ 200000 := by have h1 := sizes_take_le t.kids k; have h2 := HTS.out; have h3 := HBIG.out; have h4 := ccount_le.ccounts_le (t.kids.take k); omega
          clear hbel
          by_cases hlt : k < t.kids.length
          · obtain ⟨u, hr, hT⟩ := HG.out k t.kids[k] (List.getElem?_eq_getElem hlt)
            have hne := List.getElem?_eq_getElem hlt
            generalize t.kids[k] = tk at hr hT hne
            have HR := Lib.hid (rangeAt_below hr ((HB.out.mono (Nat.le_refl _))) hg)
            have HTK := Lib.hid (hT.below (HB.out))
            have HNE := Lib.hid hne
            have hcap := HCAP.out
            have hks := sizes_mem hne
            clear hr hT hne
            go_wp2_with (first
              | ((with_reducible refine at_ld 25 (.tmp 29) ?_); refine wpList_load_mid rfl 25 (.tmp 29) rfl g (k * 5) rfl (nodeCells tk u) _ HR.out Tryd.underlying25 rfl Tryd.sizeNode ?_)
              | ((with_reducible refine at_st 25 (.tmp 5) ?_); refine wpList_store_new rfl 25 (.tmp 5) (.tmp 30) rfl (nodeCells tk u) (old := zeroNodeCells) rfl rfl Tryd.sizeNode rfl (nodeCells_one _ _ HTK.out.kat.one) ?_)
              | ((with_reducible refine at_ld 25 (.tmp 5) ?_); refine wpList_load_blk rfl 25 (.tmp 5) rfl wr.heap.size (nodeCells tk u) rfl (Blk.new wr _ _) Tryd.underlying25 rfl Tryd.sizeNode ?_))
            refine (HIH.out tk (by have h2 := HTS.out; have h3 := HT.out; omega) (HTK.out.alloc _).kat (by have h2 := HTS.out; have h3 := HBIG.out; omega)).mono ?_
            rintro e w2 ⟨rfl, hb2⟩
            have HB2 := Lib.hid ((HB.out.alloc hzw _).trans (hb2.mono (by simp; omega)))
            have hks2 : tk.count ≤ 200000 := by have h2 := HTS.out; have h3 := HBIG.out; have h4 := ccount_le tk; omega
            clear hb2
            go_wp2
            go_roundg (gk - 1)
            case measure => omega
            case rel =>
              refine ⟨k + 1, by omega, by omega, by go_num, ?_, HB2.out⟩
              rw [counts_take _ _ _ HNE.out]
              go_num
          · have HE := Lib.hid (show t.kids.take k = t.kids from List.take_of_length_le (by omega))
            go_wp2
            go_ret
            exact ⟨by rw [HCT.out, HE.out]; rfl, HB.out⟩
    · have hc2 : ownCount kk = 1 := by unfold ownCount; rw [b1, b2, b3, b4]; rfl
      rw [hc2] at hct
      clear hc2
      rcases hk.form with ⟨rfl, hnil⟩ | ⟨g, cap, rfl, hg, hcap, hcm, hget⟩
      · have HN := Lib.hid hnil
        have HCT := Lib.hid hct
        clear hk ih ht hbig hts hnil hkl hkl2 hct
        go_enter Tryd.func23, Tryd.ntmps23
        go_wp2_with fail
        refine wp_loop_rounds 1 ?_
        rw [rounds_succ]
        go_wp2_with fail
        go_ret
        refine ⟨?_, (Below.refl _ _).alloc (Nat.le_refl _) _⟩
        rw [HCT.out, HN.out, counts_nil]
        rfl
      · have HG := Lib.hid hget
        have HCAP := Lib.hid hcap
        have HCT := Lib.hid hct
        clear hk ih ht hbig hts hget hkl hcap hct
        unfold maxLen at hcm
        go_enter Tryd.func23, Tryd.ntmps23
        go_wp2_with fail
        go_loopg [3, 27] t.kids.length (fun gk s i wr => CountRel w 1 t.kids gk s i wr)
        case atStart => exact ⟨0, by omega, by omega, rfl, by rw [List.take_zero, counts_nil]; rfl, (Below.refl _ _).alloc (Nat.le_refl _) _⟩
        case round =>
          obtain ⟨k, hk, hgk, rfl, rfl, hbel⟩ := hrel
          have HB := Lib.hid hbel
          have hzw := hbel.size
          have hsl : counts (t.kids.take k) ≤ 200000 := by have h1 := sizes_take_le t.kids k; have h2 := HTS.out; have h3 := HBIG.out; have h4 := ccount_le.ccounts_le (t.kids.take k); omega
          clear hbel
          by_cases hlt : k < t.kids.length
          · obtain ⟨u, hr, hT⟩ := HG.out k t.kids[k] (List.getElem?_eq_getElem hlt)
            have hne := List.getElem?_eq_getElem hlt
            generalize t.kids[k] = tk at hr hT hne
            have HR := Lib.hid (rangeAt_below hr ((HB.out.mono (Nat.le_refl _))) hg)
            have HTK := Lib.hid (hT.below (HB.out))
            have HNE := Lib.hid hne
            have hcap := HCAP.out
            have hks := sizes_mem hne
            clear hr hT hne
            go_wp2_with (first
              | ((with_reducible refine at_ld 25 (.tmp 29) ?_); refine wpList_load_mid rfl 25 (.tmp 29) rfl g (k * 5) rfl (nodeCells tk u) _ HR.out Tryd.underlying25 rfl Tryd.sizeNode ?_)
              | ((with_reducible refine at_st 25 (.tmp 5) ?_); refine wpList_store_new rfl 25 (.tmp 5) (.tmp 30) rfl (nodeCells tk u) (old := zeroNodeCells) rfl rfl Tryd.sizeNode rfl (nodeCells_one _ _ HTK.out.kat.one) ?_)
              | ((with_reducible refine at_ld 25 (.tmp 5) ?_); refine wpList_load_blk rfl 25 (.tmp 5) rfl wr.heap.size (nodeCells tk u) rfl (Blk.new wr _ _) Tryd.underlying25 rfl Tryd.sizeNode ?_))
            refine (HIH.out tk (by have h2 := HTS.out; have h3 := HT.out; omega) (HTK.out.alloc _).kat (by have h2 := HTS.out; have h3 := HBIG.out; omega)).mono ?_
            rintro e w2 ⟨rfl, hb2⟩
            have HB2 := Lib.hid ((HB.out.alloc hzw _).trans (hb2.mono (by simp; omega)))
            have hks2 : tk.count ≤ 200000 := by have h2 := HTS.out; have h3 := HBIG.out; have h4 := ccount_le tk; omega
            clear hb2
            go_wp2
            go_roundg (gk - 1)
            case measure => omega
            case rel =>
              refine ⟨k + 1, by omega, by omega, by go_num, ?_, HB2.out⟩
              rw [counts_take _ _ _ HNE.out]
              go_num
          · have HE := Lib.hid (show t.kids.take k = t.kids from List.take_of_length_le (by omega))
            go_wp2
            go_ret
            exact ⟨by rw [HCT.out, HE.out]; rfl, HB.out⟩
    · have hc2 : ownCount kk = 0 := by unfold ownCount; rw [b1, b2, b3]; rfl
      rw [hc2] at hct
      clear hc2
      rcases hk.form with ⟨rfl, hnil⟩ | ⟨g, cap, rfl, hg, hcap, hcm, hget⟩
      · have HN := Lib.hid hnil
        have HCT := Lib.hid hct
        clear hk ih ht hbig hts hnil hkl hkl2 hct
        go_enter Tryd.func23, Tryd.ntmps23
        go_wp2_with fail
        refine wp_loop_rounds 1 ?_
        rw [rounds_succ]
        go_wp2_with fail
        go_ret
        refine ⟨?_, (Below.refl _ _).alloc (Nat.le_refl _) _⟩
        rw [HCT.out, HN.out, counts_nil]
        rfl
      · have HG := Lib.hid hget
        have HCAP := Lib.hid hcap
        have HCT := Lib.hid hct
        clear hk ih ht hbig hts hget hkl hcap hct
        unfold maxLen at hcm
        go_enter Tryd.func23, Tryd.ntmps23
        go_wp2_with fail
        go_loopg [3, 27] t.kids.length (fun gk s i wr => CountRel w 0 t.kids gk s i wr)
        case atStart => exact ⟨0, by omega, by omega, rfl, by rw [List.take_zero, counts_nil]; rfl, (Below.refl _ _).alloc (Nat.le_refl _) _⟩
        case round =>
          obtain ⟨k, hk, hgk, rfl, rfl, hbel⟩ := hrel
          have HB := Lib.hid hbel
          have hzw := hbel.size
          have hsl : counts (t.kids.take k) ≤ 200000 := by have h1 := sizes_take_le t.kids k; have h2 := HTS.out; have h3 := HBIG.out; have h4 := ccount_le.ccounts_le (t.kids.take k); omega
          clear hbel
          by_cases hlt : k < t.kids.length
          · obtain ⟨u, hr, hT⟩ := HG.out k t.kids[k] (List.getElem?_eq_getElem hlt)
            have hne := List.getElem?_eq_getElem hlt
            generalize t.kids[k] = tk at hr hT hne
            have HR := Lib.hid (rangeAt_below hr ((HB.out.mono (Nat.le_refl _))) hg)
            have HTK := Lib.hid (hT.below (HB.out))
            have HNE := Lib.hid hne
            have hcap := HCAP.out
            have hks := sizes_mem hne
            clear hr hT hne
            go_wp2_with (first
              | ((with_reducible refine at_ld 25 (.tmp 29) ?_); refine wpList_load_mid rfl 25 (.tmp 29) rfl g (k * 5) rfl (nodeCells tk u) _ HR.out Tryd.underlying25 rfl Tryd.sizeNode ?_)
              | ((with_reducible refine at_st 25 (.tmp 5) ?_); refine wpList_store_new rfl 25 (.tmp 5) (.tmp 30) rfl (nodeCells tk u) (old := zeroNodeCells) rfl rfl Tryd.sizeNode rfl (nodeCells_one _ _ HTK.out.kat.one) ?_)
              | ((with_reducible refine at_ld 25 (.tmp 5) ?_); refine wpList_load_blk rfl 25 (.tmp 5) rfl wr.heap.size (nodeCells tk u) rfl (Blk.new wr _ _) Tryd.underlying25 rfl Tryd.sizeNode ?_))
            refine (HIH.out tk (by have h2 := HTS.out; have h3 := HT.out; omega) (HTK.out.alloc _).kat (by have h2 := HTS.out; have h3 := HBIG.out; omega)).mono ?_
            rintro e w2 ⟨rfl, hb2⟩
            have HB2 := Lib.hid ((HB.out.alloc hzw _).trans (hb2.mono (by simp; omega)))
            have hks2 : tk.count ≤ 200000 := by have h2 := HTS.out; have h3 := HBIG.out; have h4 := ccount_le tk; omega
            clear hb2
            go_wp2
            go_roundg (gk - 1)
            case measure => omega
            case rel =>
              refine ⟨k + 1, by omega, by omega, by go_num, ?_, HB2.out⟩
              rw [counts_take _ _ _ HNE.out]
              go_num
          · have HE := Lib.hid (show t.kids.take k = t.kids from List.take_of_length_le (by omega))
            go_wp2
            go_ret
            exact ⟨by rw [HCT.out, HE.out]; rfl, HB.out⟩
    · have hc2 : ownCount kk = 0 := by unfold ownCount; rw [b1, b2, b3, b4]; rfl
      rw [hc2] at hct
      clear hc2
      rcases hk.form with ⟨rfl, hnil⟩ | ⟨g, cap, rfl, hg, hcap, hcm, hget⟩
      · have HN := Lib.hid hnil
        have HCT := Lib.hid hct
        clear hk ih ht hbig hts hnil hkl hkl2 hct
        go_enter Tryd.func23, Tryd.ntmps23
        go_wp2_with fail
        refine wp_loop_rounds 1 ?_
        rw [rounds_succ]
        go_wp2_with fail
        go_ret
        refine ⟨?_, (Below.refl _ _).alloc (Nat.le_refl _) _⟩
        rw [HCT.out, HN.out, counts_nil]
        rfl
      · have HG := Lib.hid hget
        have HCAP := Lib.hid hcap
        have HCT := Lib.hid hct
        clear hk ih ht hbig hts hget hkl hcap hct
        unfold maxLen at hcm
        go_enter Tryd.func23, Tryd.ntmps23
        go_wp2_with fail
        go_loopg [3, 27] t.kids.length (fun gk s i wr => CountRel w 0 t.kids gk s i wr)
        case atStart => exact ⟨0, by omega, by omega, rfl, by rw [List.take_zero, counts_nil]; rfl, (Below.refl _ _).alloc (Nat.le_refl _) _⟩
        case round =>
          obtain ⟨k, hk, hgk, rfl, rfl, hbel⟩ := hrel
          have HB := Lib.hid hbel
          have hzw := hbel.size
          have hsl : counts (t.kids.take k) ≤ 200000 := by have h1 := sizes_take_le t.kids k; have h2 := HTS.out; have h3 := HBIG.out; have h4 := ccount_le.ccounts_le (t.kids.take k); omega
          clear hbel
          by_cases hlt : k < t.kids.length
          · obtain ⟨u, hr, hT⟩ := HG.out k t.kids[k] (List.getElem?_eq_getElem hlt)
            have hne := List.getElem?_eq_getElem hlt
            generalize t.kids[k] = tk at hr hT hne
            have HR := Lib.hid (rangeAt_below hr ((HB.out.mono (Nat.le_refl _))) hg)
            have HTK := Lib.hid (hT.below (HB.out))
            have HNE := Lib.hid hne
            have hcap := HCAP.out
            have hks := sizes_mem hne
            clear hr hT hne
            go_wp2_with (first
              | ((with_reducible refine at_ld 25 (.tmp 29) ?_); refine wpList_load_mid rfl 25 (.tmp 29) rfl g (k * 5) rfl (nodeCells tk u) _ HR.out Tryd.underlying25 rfl Tryd.sizeNode ?_)
              | ((with_reducible refine at_st 25 (.tmp 5) ?_); refine wpList_store_new rfl 25 (.tmp 5) (.tmp 30) rfl (nodeCells tk u) (old := zeroNodeCells) rfl rfl Tryd.sizeNode rfl (nodeCells_one _ _ HTK.out.kat.one) ?_)
              | ((with_reducible refine at_ld 25 (.tmp 5) ?_); refine wpList_load_blk rfl 25 (.tmp 5) rfl wr.heap.size (nodeCells tk u) rfl (Blk.new wr _ _) Tryd.underlying25 rfl Tryd.sizeNode ?_))
            refine (HIH.out tk (by have h2 := HTS.out; have h3 := HT.out; omega) (HTK.out.alloc _).kat (by have h2 := HTS.out; have h3 := HBIG.out; omega)).mono ?_
            rintro e w2 ⟨rfl, hb2⟩
            have HB2 := Lib.hid ((HB.out.alloc hzw _).trans (hb2.mono (by simp; omega)))
            have hks2 : tk.count ≤ 200000 := by have h2 := HTS.out; have h3 := HBIG.out; have h4 := ccount_le tk; omega
            clear hb2
            go_wp2
            go_roundg (gk - 1)
            case measure => omega
            case rel =>
              refine ⟨k + 1, by omega, by omega, by go_num, ?_, HB2.out⟩
              rw [counts_take _ _ _ HNE.out]
              go_num
          · have HE := Lib.hid (show t.kids.take k = t.kids from List.take_of_length_le (by omega))
            go_wp2
            go_ret
            exact ⟨by rw [HCT.out, HE.out]; rfl, HB.out⟩
end

section
open Go.RowKit

theorem fn_form {t : T} (hw : t.whole) (h6 : t.kind = 6) : ∃ xs r b, t.kids = xs ++ [r, b] ∧ KindsAre (· = 7) xs ∧ wholes xs ∧ (r.kind = 8 ∧ r.whole) ∧ (b.kind = 9 ∧ b.whole) ∧ sizes b.kids + 1 ≤ sizes t.kids ∧ lowerI t = ⟨t.text, paramsI t.kids, blockI 5000 0 b.kids ++ [retI b]⟩ := by
  obtain ⟨h1, hws⟩ := whole_eq.1 hw
  rw [h6] at h1
  generalize hk : t.kids = ks at *
  cases h1 with
  | @fn xs r b _ hx hr h9 =>
    have hsz : sizes (xs ++ [r, b]) = sizes xs + (r.size + (b.size + 0)) := by rw [sizes_append, sizes_cons, sizes_cons, sizes_nil]
    have hbs : b.size = 1 + sizes b.kids := by cases b; rw [size_mk]; rfl
    have hlast : lastP t = b := by
      unfold lastP kidP
      rw [hk]
      have h0 : (xs ++ [r, b]).isEmpty = false := by cases xs <;> rfl
      rw [h0]
      show (xs ++ [r, b]).getD ((xs ++ [r, b]).length - 1) zeroT = b
      simp
    refine ⟨xs, r, b, rfl, hx, ?_, ⟨hr, wholes_mem hws (by simp)⟩, ⟨h9, wholes_mem hws (by simp)⟩, by omega, ?_⟩
    · clear hk hx hsz hlast
      induction xs with
      | nil => exact wholes_nil
      | cons a l ih => rw [List.cons_append] at hws; exact wholes_cons.2 ⟨(wholes_cons.1 hws).1, ih (wholes_cons.1 hws).2⟩
    · unfold lowerI
      rw [h6, hlast, hk]
      rfl
  | unit e | type e | none e | one e | two e | param e | block e | set e | cond e | loop e | call1 e | load e | call e | leaf e => omega

theorem fn_count {t : T} (hw : t.whole) (h6 : t.kind = 6) (hs : t.size ≤ 5000) : (lowerI t).list.length = t.count + 1 := by
  obtain ⟨xs, r, b, he, hx, hwx, hr, hb, hsz, hl⟩ := fn_form hw h6
  have hts : t.size = 1 + sizes t.kids := by cases t; rw [size_mk]; rfl
  have hbk := block_kids hb.2 hb.1
  rw [hl, count_eq, h6, he, counts_append, counts_cons, counts_cons, counts_nil, counts_params hwx hx, count_flat hr.2 (by omega), count_eq b, hb.1, ownCount_no (k := 6) (by omega), ownCount_no (k := 9) (by omega)]
  show (blockI 5000 0 b.kids ++ [retI b]).length = _
  rw [List.length_append, blockI_length 5000 b.kids (by omega) hbk.1 hbk.2 0]
  simp

/- What the law asks of the jumps of a list. -/
theorem fn_jumps {t : T} (hw : t.whole) (h6 : t.kind = 6) (hs : t.size ≤ 5000) : ∃ B b, (lowerI t).list = B ++ [retI b] ∧ JOk 0 B.length B := by
  obtain ⟨xs, r, b, he, hx, hwx, hr, hb, hsz, hl⟩ := fn_form hw h6
  have hts : t.size = 1 + sizes t.kids := by cases t; rw [size_mk]; rfl
  have hbk := block_kids hb.2 hb.1
  refine ⟨blockI 5000 0 b.kids, b, by rw [hl], ?_⟩
  have h := blockI_jumps 5000 b.kids (by omega) hbk.1 hbk.2 0
  rwa [Nat.zero_add] at h
theorem fn_not {t : T} (h6 : t.kind ≠ 6) : lowerI t = cod0 := by
  unfold lowerI
  have : (t.kind == 6) = false := by simpa using h6
  rw [this]; rfl
end

end Go.Proofs.YtnmpfpnldcgbaaaDoor
