/- Proved here: for every text that lychgatelaw07.CodeCounts is called with, in every memory in which lex's tables stand as the program's text lays them, the call returns true and the text reads as before. Conditions: the package-level tables lex.keys, lex.blanks and lex.pairs hold what their initialisers lay (the card ties them to the program's text). -/
import Derived.Test.YtnmpfpnldcgbaaaDoorP34
import Derived.Test.YtnmpfpnldcgbaaaDoorP36
import Derived.Test.YtnmpfpnldcgbaaaDoorP03
namespace Go.Proofs.YtnmpfpnldcgbaaaDoor
open Go.ChangeShapes Go.WideShapes Go.ChangeAt Go.RowKit

/- The loop over the declarations: nothing that was in memory is changed. -/
def LpRel (w : World) (n : Nat) (g : Nat) (i : Value) (wr : World) : Prop := ∃ k : Nat, k ≤ n ∧ n ≤ k + g ∧ i = .int .i64 k ∧ Below w.heap.size w wr

set_option maxHeartbeats 4000000 in
set_option maxRecDepth 100000 in
theorem codeCounts_walk (s : ByteArray) (w : World) (hs : s.size ≤ maxLen) (ht : Tabs w) :
    Calls Tryd.prog 6 #[.string s] w fun e w' => e = .returned (.bool true) ∧ Below w.heap.size w w' := by
  have HT := Lib.hid ht
  have HGD := Lib.hid (parse_good s)
  have HWH := Lib.hid (parse_whole s)
  go_enter Tryd.func6, Tryd.ntmps6
  go_wp2_with fail
  refine (parse_any s w hs ht).mono ?_
  generalize parseB s = q at HGD HWH
  obtain ⟨t, p, c⟩ := q
  rintro e w1 ⟨kv, rfl, hk, hb⟩
  have HK := Lib.hid (show KAt 25 w1 t.kids (fun b => w.heap.size ≤ b) kv from hk)
  have HB := Lib.hid hb
  have HT1 := Lib.hid (ht.below hb ht.size)
  have HO := Lib.hid HK.out.one
  clear hk hb ht
  have HG := Lib.hid (show t.size ≤ 4096 from HGD.out.2)
  have HW := Lib.hid (show t.whole from HWH.out.2)
  have hsz : t.size ≤ 4096 := HG.out
  have HN := Lib.hid (show Blk _ w1.heap.size (nodeCells t kv) 25 from Blk.new w1 _ _)
  clear HGD HWH
  unfold NodeV
  go_wp2_with ((with_reducible refine at_st 25 (.tmp 3) ?_); refine wpList_store_new rfl 25 (.tmp 3) (.tmp 11) rfl (nodeCells t kv) (old := zeroNodeCells) rfl rfl Tryd.sizeNode rfl (nodeCells_one _ _ HO.out) ?_)
  refine (wakes7_any _ HT1.out.alloc).mono ?_
  rintro e w2 ⟨rfl, hb2⟩
  have HN2 := Lib.hid (HN.out.kp (Kp.of_below (pb := w2.heap.size) hb2) (by have := hb2.size; simp at this; omega))
  have HK2 := Lib.hid ((HK.out.alloc (.cells (nodeCells t kv).toArray 25)).below hb2)
  have HB2 := Lib.hid ((HB.out.alloc HB.out.size _).trans (hb2.mono (by simp; have := HB.out.size; omega)))
  have HT2 := Lib.hid (HT.out.below HB2.out HT.out.size)
  clear hb2 HN HK
  have hts : t.size = 1 + sizes t.kids := by cases t; rw [size_mk]; rfl
  have hkl : t.kids.length ≤ 4096 := by have h1 := len_sizes t.kids; omega
  by_cases hc : c = 0
  · subst hc
    rcases HK2.out.form with ⟨rfl, hnil⟩ | ⟨g, cap, rfl, hg, hcap, hcm, hget⟩
    · have c4 : w2.cell? ⟨w1.heap.size, 4, none⟩ = some (.slice none 0 0) := HN2.out.cell 4
      clear hnil hkl hts
      go_wp2_with fail
      refine wp_loop_rounds 1 ?_
      rw [rounds_succ]
      go_wp2_with fail
      go_ret
      exact ⟨rfl, HB2.out⟩
    · have c4 : w2.cell? ⟨w1.heap.size, 4, none⟩ = some (.slice (some ⟨g, 0, none⟩) t.kids.length cap) := HN2.out.cell 4
      have HGT := Lib.hid hget
      have HCAP := Lib.hid hcap
      have HTS := Lib.hid hts
      clear hget hcap hts
      unfold maxLen at hcm
      go_wp2_with fail
      go_loopg [24] t.kids.length (fun gk i wr => LpRel w2 t.kids.length gk i wr)
      case atStart => exact ⟨0, by omega, by omega, rfl, Below.refl _ _⟩
      case round =>
        obtain ⟨k, hk, hgk, rfl, hbel⟩ := hrel
        have HBW := Lib.hid hbel
        have hzw := hbel.size
        clear hbel
        by_cases hlt : k < t.kids.length
        · obtain ⟨u, hr, hT⟩ := HGT.out k t.kids[k] (List.getElem?_eq_getElem hlt)
          have hne := List.getElem?_eq_getElem hlt
          have hks := sizes_mem hne
          generalize t.kids[k] = tk at hr hT hne hks
          have HR := Lib.hid (rangeAt_below hr HBW.out hg)
          have HTK := Lib.hid (hT.below HBW.out)
          have HTW := Lib.hid (show tk.whole from wholes_mem (whole_eq.1 HW.out).2 (List.mem_of_getElem? hne))
          have HTZ := Lib.hid (show tk.size ≤ 4096 from by have := HTS.out; omega)
          have hcap := HCAP.out
          have HBN := Lib.hid (HBW.out.alloc hzw (.cells (nodeCells tk u).toArray 25))
          clear hr hT hne hks
          by_cases h6 : tk.kind = 6
          · have HCN := Lib.hid (fn_count HTW.out h6 (by have := HTZ.out; omega))
            have HCB := Lib.hid (show tk.count ≤ 8192 from by have := ccount_le tk; have := HTZ.out; omega)
            have hcb := HCB.out
            obtain ⟨kk, kt, kn, kp, kks⟩ := tk
            obtain rfl : kk = 6 := h6
            have HBLK := Lib.hid (Blk.new wr (nodeCells (T.mk 6 kt kn kp kks) u) 25)
            have HKW := Lib.hid (HTK.out.alloc (.cells (nodeCells (T.mk 6 kt kn kp kks) u).toArray 25)).kat
            go_wp2_with (first
              | ((with_reducible refine at_ld 25 (.tmp 26) ?_); refine wpList_load_mid rfl 25 (.tmp 26) rfl g (k * 5) rfl (nodeCells (T.mk 6 kt kn kp kks) u) _ HR.out Tryd.underlying25 rfl Tryd.sizeNode ?_)
              | ((with_reducible refine at_st 25 (.tmp 7) ?_); refine wpList_store_new rfl 25 (.tmp 7) (.tmp 27) rfl (nodeCells (T.mk 6 kt kn kp kks) u) (old := zeroNodeCells) rfl rfl Tryd.sizeNode rfl (nodeCells_one _ _ HTK.out.kat.one) ?_))
            generalize wr.alloc (.cells (nodeCells (T.mk 6 kt kn kp kks) u).toArray 25) = W at *
            refine wp_region_held_drew (S := fun W => Blk W wr.heap.size (nodeCells (T.mk 6 kt kn kp kks) u) 25) (by kernel_rfl) HBLK.out.drew (fun hS => ?_)
            refine wpAnyH_take (i := 0) (oi := ⟨some 28, _, _, _, _, _⟩) (v := .pointer (some ⟨wr.heap.size, 0, none⟩)) rfl (by kernel_rfl) (by kernel_rfl) (by kernel_rfl) (fun _ _ _ h => h) (Or.inl ⟨by rfl, fun W _ => by go_simp⟩) hS ?_
            try simp only [Act.put, List.setIfInBounds_toArray, List.set_cons_zero, List.set_cons_succ]
            refine wpAnyH_take (i := 1) (oi := ⟨some 29, _, _, _, _, _⟩) (v := .int .i64 6) rfl (by kernel_rfl) (by kernel_rfl) (by kernel_rfl) (fun _ _ _ h => h) (Or.inl ⟨by rfl, fun W hW => by have hcx : W.cell? ⟨wr.heap.size, 0, none⟩ = some (.int .i64 6) := (hW).cell 0; go_simp⟩) hS ?_
            try simp only [Act.put, List.setIfInBounds_toArray, List.set_cons_zero, List.set_cons_succ]
            refine wpAnyH_take (i := 2) (oi := ⟨some 30, _, _, _, _, _⟩) (v := .bool true) rfl (by kernel_rfl) (by kernel_rfl) (by kernel_rfl) (fun _ _ _ h => h) (Or.inl ⟨by rfl, fun W _ => by go_simp⟩) hS ?_
            try simp only [Act.put, List.setIfInBounds_toArray, List.set_cons_zero, List.set_cons_succ]
            refine wpAnyH_take (i := 3) (oi := ⟨some 31, _, _, _, _, _⟩) (v := .bool true) rfl (by kernel_rfl) (by kernel_rfl) (by kernel_rfl) (fun _ _ _ h => h) (Or.inl ⟨by rfl, fun W _ => by go_simp⟩) hS ?_
            try simp only [Act.put, List.setIfInBounds_toArray, List.set_cons_zero, List.set_cons_succ]
            refine wpAnyH_take (i := 4) (oi := ⟨some 32, _, _, _, _, _⟩) (v := .agg #[.int .i64 6, .string kt, .int .i64 kn, .int .i64 kp, u]) rfl (by kernel_rfl) (by kernel_rfl) (by kernel_rfl) (fun _ _ _ h => h) (yieldsIf_load_mid (cs := nodeCells (T.mk 6 kt kn kp kks) (u)) (by rfl) 25 (.tmp 7) rfl (wr.heap.size) (0) (by go_simp) _ (fun W hW j v hj => by rw [Nat.zero_add, (hW).cell j]; exact hj) Tryd.underlying25 rfl Tryd.sizeNode) hS ?_
            try simp only [Act.put, List.setIfInBounds_toArray, List.set_cons_zero, List.set_cons_succ]
            refine wpAnyH_take (i := 8) (oi := ⟨some 36, _, _, _, _, _⟩) (v := .agg #[.int .i64 6, .string kt, .int .i64 kn, .int .i64 kp, u]) rfl (by kernel_rfl) (by kernel_rfl) (by kernel_rfl) (fun _ _ _ h => h) (yieldsIf_load_mid (cs := nodeCells (T.mk 6 kt kn kp kks) (u)) (by rfl) 25 (.tmp 7) rfl (wr.heap.size) (0) (by go_simp) _ (fun W hW j v hj => by rw [Nat.zero_add, (hW).cell j]; exact hj) Tryd.underlying25 rfl Tryd.sizeNode) hS ?_
            try simp only [Act.put, List.setIfInBounds_toArray, List.set_cons_zero, List.set_cons_succ]
            refine AnyH.only (i := 5) (o := ⟨some 33, _, _, _, _, _⟩) (by kernel_rfl) rfl (by rfl) (fun K hK => ?_)
            go_simp
            have hkd : KAt 25 W.drew kks (fun b => w.heap.size ≤ b) u := HKW.out.drew
            refine (lower_any (t := T.mk 6 kt kn kp kks) hkd HTW.out (by have := HTZ.out; omega)).mono ?_
            rintro e w3 ⟨pv, lv, rfl, hcd, hb3⟩
            obtain ⟨la, lc, rfl⟩ := hcd.2.slice
            rw [HCN.out]
            have HB3 := Lib.hid (HBN.out.drew.trans (hb3.mono HBN.out.drew.size))
            have HK3 := Lib.hid (hkd.below hb3)
            clear hcd
            have hS : Blk w3 wr.heap.size (nodeCells (T.mk 6 kt kn kp kks) u) 25 := HBLK.out.drew.stays hb3
            clear hb3
            unfold CodV
            refine hK.out _ _ hS ?_
            clear hK K
            try simp only [Act.put, List.setIfInBounds_toArray, List.set_cons_zero, List.set_cons_succ]
            refine wpAnyH_take (i := 6) (oi := ⟨some 34, _, _, _, _, _⟩) (v := .slice la ((T.mk 6 kt kn kp kks).count + 1) lc) rfl (by kernel_rfl) (by kernel_rfl) (by kernel_rfl) (fun _ _ _ h => h) (Or.inl ⟨by rfl, fun W _ => by have hf2 := fldCod2; go_simp⟩) hS ?_
            try simp only [Act.put, List.setIfInBounds_toArray, List.set_cons_zero, List.set_cons_succ]
            refine wpAnyH_take (i := 7) (oi := ⟨some 35, _, _, _, _, _⟩) (v := .int .i64 (((T.mk 6 kt kn kp kks).count + 1 : Nat) : Int)) rfl (by kernel_rfl) (by kernel_rfl) (by kernel_rfl) (fun _ _ _ h => h) (Or.inl ⟨by rfl, fun W _ => by go_simp⟩) hS ?_
            try simp only [Act.put, List.setIfInBounds_toArray, List.set_cons_zero, List.set_cons_succ]
            refine AnyH.only (i := 9) (o := ⟨some 37, _, _, _, _, _⟩) (by kernel_rfl) rfl (by rfl) (fun K hK => ?_)
            go_simp
            refine (count_any _ (T.mk 6 kt kn kp kks) (Nat.le_refl _) HK3.out (by have := HTZ.out; omega)).mono ?_
            rintro e w4 ⟨rfl, hb4⟩
            have HB4 := Lib.hid (HB3.out.trans (hb4.mono HB3.out.size))
            have hS4 : Blk w4 wr.heap.size (nodeCells (T.mk 6 kt kn kp kks) u) 25 := hS.stays hb4
            clear hb4 hS
            have hS := hS4
            clear hS4
            refine hK.out _ _ hS ?_
            clear hK K
            try simp only [Act.put, List.setIfInBounds_toArray, List.set_cons_zero, List.set_cons_succ]
            have hwr : IntKind.i64.wrap (((T.mk 6 kt kn kp kks).count : Int) + 1) = (((T.mk 6 kt kn kp kks).count + 1 : Nat) : Int) := by rw [IntWalk.i64_in _ (by omega)]; rfl
            refine wpAnyH_take (i := 10) (oi := ⟨some 38, _, _, _, _, _⟩) (v := .int .i64 (((T.mk 6 kt kn kp kks).count + 1 : Nat) : Int)) rfl (by kernel_rfl) (by kernel_rfl) (by kernel_rfl) (fun _ _ _ h => h) (Or.inl ⟨by rfl, fun W _ => by go_simp⟩) hS ?_
            try simp only [Act.put, List.setIfInBounds_toArray, List.set_cons_zero, List.set_cons_succ]
            refine wpAnyH_take (i := 11) (oi := ⟨some 39, _, _, _, _, _⟩) (v := .bool false) rfl (by kernel_rfl) (by kernel_rfl) (by kernel_rfl) (fun _ _ _ h => h) (Or.inl ⟨by rfl, fun W _ => by go_simp⟩) hS ?_
            try simp only [Act.put, List.setIfInBounds_toArray, List.set_cons_zero, List.set_cons_succ]
            refine wpAnyH_take (i := 12) (oi := ⟨some 40, _, _, _, _, _⟩) (v := .bool false) rfl (by kernel_rfl) (by kernel_rfl) (by kernel_rfl) (fun _ _ _ h => h) (Or.inl ⟨by rfl, fun W _ => by go_simp⟩) hS ?_
            try simp only [Act.put, List.setIfInBounds_toArray, List.set_cons_zero, List.set_cons_succ]
            refine wpAnyH_done (by kernel_rfl) ?_ _
            clear hS
            go_wp2
            go_roundg (gk - 1)
            case measure => omega
            case rel => exact ⟨k + 1, by omega, by omega, by go_num, HB4.out⟩
          · have h6b : (tk.kind == 6) = false := by simp [h6]
            have HBLK := Lib.hid (Blk.new wr (nodeCells tk u) 25)
            have HKW := Lib.hid (HTK.out.alloc (.cells (nodeCells tk u).toArray 25)).kat
            go_wp2_with (first
              | ((with_reducible refine at_ld 25 (.tmp 26) ?_); refine wpList_load_mid rfl 25 (.tmp 26) rfl g (k * 5) rfl (nodeCells tk u) _ HR.out Tryd.underlying25 rfl Tryd.sizeNode ?_)
              | ((with_reducible refine at_st 25 (.tmp 7) ?_); refine wpList_store_new rfl 25 (.tmp 7) (.tmp 27) rfl (nodeCells tk u) (old := zeroNodeCells) rfl rfl Tryd.sizeNode rfl (nodeCells_one _ _ HTK.out.kat.one) ?_))
            generalize wr.alloc (.cells (nodeCells tk u).toArray 25) = W at *
            refine wp_region_held_drew (S := fun W => Blk W wr.heap.size (nodeCells tk u) 25) (by kernel_rfl) HBLK.out.drew (fun hS => ?_)
            refine wpAnyH_take (i := 0) (oi := ⟨some 28, _, _, _, _, _⟩) (v := .pointer (some ⟨wr.heap.size, 0, none⟩)) rfl (by kernel_rfl) (by kernel_rfl) (by kernel_rfl) (fun _ _ _ h => h) (Or.inl ⟨by rfl, fun W _ => by go_simp⟩) hS ?_
            try simp only [Act.put, List.setIfInBounds_toArray, List.set_cons_zero, List.set_cons_succ]
            refine wpAnyH_take (i := 1) (oi := ⟨some 29, _, _, _, _, _⟩) (v := .int .i64 tk.kind) rfl (by kernel_rfl) (by kernel_rfl) (by kernel_rfl) (fun _ _ _ h => h) (Or.inl ⟨by rfl, fun W hW => by have hcx : W.cell? ⟨wr.heap.size, 0, none⟩ = some (.int .i64 tk.kind) := (hW).cell 0; go_simp⟩) hS ?_
            try simp only [Act.put, List.setIfInBounds_toArray, List.set_cons_zero, List.set_cons_succ]
            refine wpAnyH_take (i := 2) (oi := ⟨some 30, _, _, _, _, _⟩) (v := .bool false) rfl (by kernel_rfl) (by kernel_rfl) (by kernel_rfl) (fun _ _ _ h => h) (Or.inl ⟨by rfl, fun W _ => by go_simp⟩) hS ?_
            try simp only [Act.put, List.setIfInBounds_toArray, List.set_cons_zero, List.set_cons_succ]
            refine wpAnyH_take (i := 3) (oi := ⟨some 31, _, _, _, _, _⟩) (v := .bool false) rfl (by kernel_rfl) (by kernel_rfl) (by kernel_rfl) (fun _ _ _ h => h) (Or.inl ⟨by rfl, fun W _ => by go_simp⟩) hS ?_
            try simp only [Act.put, List.setIfInBounds_toArray, List.set_cons_zero, List.set_cons_succ]
            refine wpAnyH_take (i := 4) (oi := ⟨some 32, _, _, _, _, _⟩) (v := undef) rfl (by kernel_rfl) (by kernel_rfl) (by kernel_rfl) (fun _ _ _ h => h) (Or.inr ⟨by rfl, rfl⟩) hS ?_
            try simp only [Act.put, List.setIfInBounds_toArray, List.set_cons_zero, List.set_cons_succ]
            refine wpAnyH_take (i := 5) (oi := ⟨some 33, _, _, _, _, _⟩) (v := undef) rfl (by kernel_rfl) (by kernel_rfl) (by kernel_rfl) (fun _ _ _ h => h) (Or.inr ⟨by rfl, rfl⟩) hS ?_
            try simp only [Act.put, List.setIfInBounds_toArray, List.set_cons_zero, List.set_cons_succ]
            refine wpAnyH_take (i := 6) (oi := ⟨some 34, _, _, _, _, _⟩) (v := undef) rfl (by kernel_rfl) (by kernel_rfl) (by kernel_rfl) (fun _ _ _ h => h) (Or.inr ⟨by rfl, rfl⟩) hS ?_
            try simp only [Act.put, List.setIfInBounds_toArray, List.set_cons_zero, List.set_cons_succ]
            refine wpAnyH_take (i := 7) (oi := ⟨some 35, _, _, _, _, _⟩) (v := undef) rfl (by kernel_rfl) (by kernel_rfl) (by kernel_rfl) (fun _ _ _ h => h) (Or.inr ⟨by rfl, rfl⟩) hS ?_
            try simp only [Act.put, List.setIfInBounds_toArray, List.set_cons_zero, List.set_cons_succ]
            refine wpAnyH_take (i := 8) (oi := ⟨some 36, _, _, _, _, _⟩) (v := undef) rfl (by kernel_rfl) (by kernel_rfl) (by kernel_rfl) (fun _ _ _ h => h) (Or.inr ⟨by rfl, rfl⟩) hS ?_
            try simp only [Act.put, List.setIfInBounds_toArray, List.set_cons_zero, List.set_cons_succ]
            refine wpAnyH_take (i := 9) (oi := ⟨some 37, _, _, _, _, _⟩) (v := undef) rfl (by kernel_rfl) (by kernel_rfl) (by kernel_rfl) (fun _ _ _ h => h) (Or.inr ⟨by rfl, rfl⟩) hS ?_
            try simp only [Act.put, List.setIfInBounds_toArray, List.set_cons_zero, List.set_cons_succ]
            refine wpAnyH_take (i := 10) (oi := ⟨some 38, _, _, _, _, _⟩) (v := undef) rfl (by kernel_rfl) (by kernel_rfl) (by kernel_rfl) (fun _ _ _ h => h) (Or.inr ⟨by rfl, rfl⟩) hS ?_
            try simp only [Act.put, List.setIfInBounds_toArray, List.set_cons_zero, List.set_cons_succ]
            refine wpAnyH_take (i := 11) (oi := ⟨some 39, _, _, _, _, _⟩) (v := undef) rfl (by kernel_rfl) (by kernel_rfl) (by kernel_rfl) (fun _ _ _ h => h) (Or.inr ⟨by rfl, rfl⟩) hS ?_
            try simp only [Act.put, List.setIfInBounds_toArray, List.set_cons_zero, List.set_cons_succ]
            refine wpAnyH_take (i := 12) (oi := ⟨some 40, _, _, _, _, _⟩) (v := .bool false) rfl (by kernel_rfl) (by kernel_rfl) (by kernel_rfl) (fun _ _ _ h => h) (Or.inl ⟨by rfl, fun W _ => by go_simp⟩) hS ?_
            try simp only [Act.put, List.setIfInBounds_toArray, List.set_cons_zero, List.set_cons_succ]
            refine wpAnyH_done (by kernel_rfl) ?_ _
            clear hS
            go_wp2
            go_roundg (gk - 1)
            case measure => omega
            case rel => exact ⟨k + 1, by omega, by omega, by go_num, HBN.out.drew⟩
        · go_wp2
          go_ret
          exact ⟨rfl, HB2.out.trans (HBW.out.mono HB2.out.size)⟩
  · go_wp2_with fail
    refine (wakes7_any _ HT2.out).mono ?_
    rintro e w3 ⟨rfl, hb3⟩
    have HB3 := Lib.hid (HB2.out.trans (hb3.mono HB2.out.size))
    clear hb3
    go_wp2_with fail
    go_ret
    exact ⟨rfl, HB3.out⟩

theorem codeCounts_reads (os : Os) {H : Type} (enc : TypeId × Value → H) : ∃ places, DataW.whole enc Tryd.prog ((laidWorld os).forCall (fun _ _ => 0) ⟨#[], #[.string ⟨#[]⟩], []⟩).memory Tryd.f6.params.toList Rows.codeCountsSpec.vars false #[Value.string ⟨#[]⟩].toList 8 = some ([.lit (.string [])], [], places) :=
  ⟨[], by kernel_rfl⟩

set_option maxRecDepth 100000 in
theorem codeCounts_lifted (os : Os) (started : os.Started) (H : Type) (enc : TypeId × Value → H) (F : Stop.Interp) :
    ReturnsInHanded {} Tryd.checked os 6 .any ((OpenSpec.ofChange Rows.codeCountsSpec).preRow enc Tryd.prog Tryd.f6 Rows.codeCountsRow.domain false Rows.codeCountsRow.laid) (((OpenSpec.ofChange Rows.codeCountsSpec).at F).post enc Tryd.prog Tryd.f6 false true false false) := by
  obtain ⟨places, hx⟩ := codeCounts_reads os enc
  refine returnsInHanded_of_row (C := Tryd.checked) (s := OpenSpec.ofChange Rows.codeCountsSpec) own started (by kernel_rfl) Tryd.func6
    (witness_row_at (enc := enc) (C := Tryd.checked) false (laidWorld os) #[.string ⟨#[]⟩] rfl (by kernel_rfl) (by kernel_rfl) (by kernel_rfl)
      (OpenSpec.preRow_of_cond 8 hx (by kernel_rfl) (fun k hk => by cases hk) (by kernel_rfl) (laid_met_text os))) ?_
  intro W base args ds gs before hval hW _ _ _ hL _ _
  exact text_contract Tryd.params6 (by kernel_rfl) rfl (fun _ => rfl) codeCounts_walk W base args ds gs before hval hW hL

theorem codeCounts_said : Rows.CodeCountsSaid :=
  OpenClaim.holds_of_cond 6 Tryd.f6 rfl rfl rfl rfl rfl rfl rfl ⟨rfl, rfl, rfl, rfl, rfl⟩ rfl rfl rfl rfl rfl (by kernel_rfl) Tryd.func6 (by kernel_rfl)
    (of_decide_eq_true (by kernel_rfl)) (by unfold Func.isWrapper; first | (rw [if_pos (by decide +kernel)]; kernel_rfl) | (rw [if_neg (by decide +kernel)]; exact ⟨rfl, rfl⟩))
    (fun os started H enc _ F => by rw [OpenClaim.pre_eq_preRow]; exact codeCounts_lifted os started H enc F)

theorem codeCounts_plain (f : FuncId) (fn : Func) (hf : Tryd.pinned.checked.prog.funcNamed "lychgate/lychgatelaw07.CodeCounts" = some f) (hfn : Tryd.pinned.checked.prog.funcs[f]? = some fn) :
    true = Tryd.pinned.checked.prog.looks [] ∧ ∀ (j : Nat) t, fn.params[j]? = some t → Tryd.pinned.checked.prog.wantsStandIn t = false := by
  obtain rfl : f = 6 := Option.some.inj ((show Tryd.prog.funcNamed "lychgate/lychgatelaw07.CodeCounts" = some 6 by kernel_rfl).symm.trans hf) |>.symm
  obtain rfl : fn = Tryd.f6 := (Option.some.inj (Tryd.func6.symm.trans hfn)).symm
  refine ⟨by kernel_rfl, fun j t ht => ?_⟩
  rw [Tryd.params6] at ht
  obtain rfl : t = 9 := by simpa using Array.mem_of_getElem? ht
  exact (show Tryd.prog.wantsStandIn 9 = false by kernel_rfl)

theorem codeCounts_card : Rows.CodeCountsCardSaid :=
  Claim7.holds_tied_plain_at .later [] _ _ _ _ codeCounts_said (fun _ h => by cases h) (by kernel_rfl) (fun _ h => by cases h) codeCounts_row_tie rfl ⟨rfl, rfl⟩ (by kernel_rfl) rfl codeCounts_plain (by kernel_rfl)

end Go.Proofs.YtnmpfpnldcgbaaaDoor
