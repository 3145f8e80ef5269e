/- Proved here: for every text and every list of numbers that lychgatelaw02.SyntaxSizes is called with, in every memory in which lex's tables stand as the program's text lays them, the call returns true and the arguments read as before. Conditions: the package-level tables lex.keys, lex.blanks and lex.pairs hold what their initialisers lay (the card ties them to the program's text). -/
import Derived.Test.YtflhniiemmahmaaDoorWakes2
import Derived.Test.YtflhniiemmahmaaDoorToks
import Derived.Test.YtflhniiemmahmaaDoorRefSize
import Derived.Test.YtflhniiemmahmaaDoorAlikeB
import Derived.Test.YtflhniiemmahmaaDoorLoc
import Derived.Test.YtflhniiemmahmaaDoorTabs3
namespace Go.Proofs.YtflhniiemmahmaaDoor
open Go.ChangeShapes Go.WideShapes Go.ChangeAt Go.RowKit

set_option maxHeartbeats 4000000 in
set_option maxRecDepth 100000 in
theorem syntaxSizes_none (a : ByteArray) (sa : Option Addr) (cap : Nat) (w : World) (hsa : a.size ≤ maxLen) (ht : Tabs w) :
    Calls Tryd.prog 4 #[.string a, .slice sa 0 cap] w fun e w' => e = .returned (.bool true) ∧ Below w.heap.size w w' := by
  have HT := Lib.hid ht
  cases hq : parseB a with
  | mk tn q =>
  obtain ⟨p, c⟩ := q
  have HQ := Lib.hid hq
  have hzn : tn.size ≤ 4096 := by have := (parse_good a).2; rw [hq] at this; exact this
  clear hq ht
  go_enter Tryd.func4, Tryd.ntmps4
  go_wp2_with fail
  refine (parse_any a w hsa HT.out).mono ?_
  rw [HQ.out]
  rintro e w1 ⟨kn, rfl, hk, hb⟩
  have HK1 := Lib.hid (show KAt 25 w1 tn.kids (fun b => w.heap.size ≤ b) kn from hk)
  have HO1 := Lib.hid HK1.out.one
  have HB1 := Lib.hid hb
  have HN2 := Lib.hid (Blk.new w1 (nodeCells tn kn) 25)
  have HKN2 := Lib.hid (HK1.out.alloc (.cells (nodeCells tn kn).toArray 25))
  have HB2 := Lib.hid (hb.alloc hb.size (.cells (nodeCells tn kn).toArray 25))
  clear hk hb HK1
  unfold NodeV
  go_wp2_with (first | ((with_reducible refine at_st 25 (.tmp 5) ?_); refine wpList_store_new rfl 25 (.tmp 5) (.tmp 15) rfl (nodeCells tn kn) (old := zeroNodeCells) rfl rfl Tryd.sizeNode rfl (nodeCells_one _ _ HO1.out) ?_) | ((with_reducible refine at_st 25 (.tmp 8) ?_); refine wpList_store_new rfl 25 (.tmp 8) (.tmp 18) rfl zeroNodeCells (old := zeroNodeCells) rfl rfl Tryd.sizeNode rfl (nodeCells_one zeroT _ rfl) ?_))
  refine wp_loop_rounds 1 ?_
  rw [rounds_succ]
  go_wp2_with fail
  obtain ⟨t, ht⟩ : ∃ t : T, t = zeroT := ⟨_, rfl⟩
  have HNz := Lib.hid (HN2.out.alloc (.cells zeroNodeCells.toArray 25))
  have HXz := Lib.hid (show Blk ((w1.alloc (.cells (nodeCells tn kn).toArray 25)).alloc (.cells zeroNodeCells.toArray 25)) (w1.heap.size + 1) (nodeCells t (.slice none 0 0)) 25 by rw [ht]; exact Blk.new2 w1 _ zeroNodeCells 25)
  have HKNz := Lib.hid (HKN2.out.alloc (.cells zeroNodeCells.toArray 25))
  have HKXz := Lib.hid (show KAt 25 ((w1.alloc (.cells (nodeCells tn kn).toArray 25)).alloc (.cells zeroNodeCells.toArray 25)) t.kids (fun _ => True) (.slice none 0 0) by rw [ht]; exact KAt.nil _ _ _)
  have HBz := Lib.hid (HB2.out.alloc HB2.out.size (.cells zeroNodeCells.toArray 25))
  have HTz := Lib.hid (HT.out.below HBz.out HT.out.size)
  have hzt : t.size ≤ 100 := by rw [ht]; unfold zeroT; rw [size_mk, sizes_nil]; omega
  have heq : ((t.size : Int) == 1) = true := by rw [ht]; unfold zeroT; rw [size_mk, sizes_nil]; rfl
  obtain ⟨v, hv⟩ : ∃ v : Value, v = .slice none 0 0 := ⟨_, rfl⟩
  rw [← hv] at HXz HKXz
  have hw1 : IntKind.i64.wrap 1 = 1 := IntWalk.i64_in _ (by omega)
  clear ht hv HN2 HKN2 HB2
  refine wp_region_held_drew (S := fun W => Blk W (w1.heap.size) (nodeCells tn kn) 25 ∧ Blk W (w1.heap.size + 1) (nodeCells t v) 25) (by kernel_rfl) (⟨HNz.out.drew, HXz.out.drew⟩) (fun hS => ?_)
  refine AnyH.one (i := 0) (o := ⟨some 47, _, _, _, _, _⟩) (by kernel_rfl) rfl (by rfl) (fun K hK => ?_)
  go_simp
  refine (wakes_any _ (show Tabs ((w1.alloc (.cells (nodeCells tn kn).toArray 25)).alloc (.cells zeroNodeCells.toArray 25)).drew from HTz.out.below (Below.refl _ _).drew HTz.out.size)).mono ?_
  rintro e wa ⟨rfl, hba⟩
  have HNa := Lib.hid (HNz.out.drew.below hba)
  have HXa := Lib.hid (HXz.out.drew.below hba)
  have HKNa := Lib.hid (HKNz.out.drew.below hba)
  have HKXa := Lib.hid (HKXz.out.drew.below hba)
  have HBa := Lib.hid (HBz.out.drew.trans (hba.mono HBz.out.drew.size))
  clear hba hS
  have hS : Blk wa (w1.heap.size) (nodeCells tn kn) 25 ∧ Blk wa (w1.heap.size + 1) (nodeCells t v) 25 := ⟨HNa.out, HXa.out⟩
  refine hK.out _ _ hS ?_
  clear hK K
  try simp only [Act.put, List.setIfInBounds_toArray, List.set_cons_zero, List.set_cons_succ]
  refine wpAnyH_take (i := 1) (oi := ⟨some 48, _, _, _, _, _⟩) (v := .bool true) rfl (by kernel_rfl) (by kernel_rfl) (by kernel_rfl) (fun _ _ _ h => h) (Or.inl ⟨by rfl, fun W _ => by go_simp⟩) hS ?_
  try simp only [Act.put, List.setIfInBounds_toArray, List.set_cons_zero, List.set_cons_succ]
  refine wpAnyH_take (i := 2) (oi := ⟨some 49, _, _, _, _, _⟩) (v := .agg #[.int .i64 (tn).kind, .string (tn).text, .int .i64 (tn).num, .int .i64 (tn).place, kn]) rfl (by kernel_rfl) (by kernel_rfl) (by kernel_rfl) (fun _ _ _ h => h) (yieldsIf_load_mid (cs := nodeCells (tn) (kn)) (by rfl) 25 (.tmp 5) rfl (w1.heap.size) (0) (by go_simp) _ (fun W hW j v hj => by rw [Nat.zero_add, (hW.1).cell j]; exact hj) Tryd.underlying25 rfl Tryd.sizeNode) hS ?_
  try simp only [Act.put, List.setIfInBounds_toArray, List.set_cons_zero, List.set_cons_succ]
  refine wpAnyH_take (i := 4) (oi := ⟨some 51, _, _, _, _, _⟩) (v := .agg #[.int .i64 (tn).kind, .string (tn).text, .int .i64 (tn).num, .int .i64 (tn).place, kn]) rfl (by kernel_rfl) (by kernel_rfl) (by kernel_rfl) (fun _ _ _ h => h) (yieldsIf_load_mid (cs := nodeCells (tn) (kn)) (by rfl) 25 (.tmp 5) rfl (w1.heap.size) (0) (by go_simp) _ (fun W hW j v hj => by rw [Nat.zero_add, (hW.1).cell j]; exact hj) Tryd.underlying25 rfl Tryd.sizeNode) hS ?_
  try simp only [Act.put, List.setIfInBounds_toArray, List.set_cons_zero, List.set_cons_succ]
  refine AnyH.one (i := 3) (o := ⟨some 50, _, _, _, _, _⟩) (by kernel_rfl) rfl (by rfl) (fun K hK => ?_)
  go_simp
  refine (size_any _ tn (Nat.le_refl _) HKNa.out (by omega)).mono ?_
  rintro e wb ⟨rfl, hbb⟩
  have HNb := Lib.hid (HNa.out.below hbb)
  have HXb := Lib.hid (HXa.out.below hbb)
  have HKNb := Lib.hid (HKNa.out.below hbb)
  have HKXb := Lib.hid (HKXa.out.below hbb)
  have HBb := Lib.hid (HBa.out.trans (hbb.mono HBa.out.size))
  clear hbb hS
  have hS : Blk wb (w1.heap.size) (nodeCells tn kn) 25 ∧ Blk wb (w1.heap.size + 1) (nodeCells t v) 25 := ⟨HNb.out, HXb.out⟩
  refine hK.out _ _ hS ?_
  clear hK K
  try simp only [Act.put, List.setIfInBounds_toArray, List.set_cons_zero, List.set_cons_succ]
  refine AnyH.one (i := 5) (o := ⟨some 52, _, _, _, _, _⟩) (by kernel_rfl) rfl (by rfl) (fun K hK => ?_)
  go_simp
  refine (refTree_any _ tn (Nat.le_refl _) HKNb.out (by omega)).mono ?_
  rintro e wc ⟨kc, rfl, hkc, hbc⟩
  have HRc := Lib.hid hkc
  have HNc := Lib.hid (HNb.out.below hbc)
  have HXc := Lib.hid (HXb.out.below hbc)
  have HKNc := Lib.hid (HKNb.out.below hbc)
  have HKXc := Lib.hid (HKXb.out.below hbc)
  have HBc := Lib.hid (HBb.out.trans (hbc.mono HBb.out.size))
  clear hbc hkc hS
  unfold NodeV
  have hS : Blk wc (w1.heap.size) (nodeCells tn kn) 25 ∧ Blk wc (w1.heap.size + 1) (nodeCells t v) 25 := ⟨HNc.out, HXc.out⟩
  refine hK.out _ _ hS ?_
  clear hK K
  try simp only [Act.put, List.setIfInBounds_toArray, List.set_cons_zero, List.set_cons_succ]
  refine AnyH.one (i := 6) (o := ⟨some 53, _, _, _, _, _⟩) (by kernel_rfl) rfl (by rfl) (fun K hK => ?_)
  go_simp
  refine (refSize_any _ tn (Nat.le_refl _) HRc.out (by omega)).mono ?_
  rintro e wd ⟨rfl, hbd⟩
  have HNd := Lib.hid (HNc.out.below hbd)
  have HXd := Lib.hid (HXc.out.below hbd)
  have HKNd := Lib.hid (HKNc.out.below hbd)
  have HKXd := Lib.hid (HKXc.out.below hbd)
  have HBd := Lib.hid (HBc.out.trans (hbd.mono HBc.out.size))
  clear hbd hS
  have hS : Blk wd (w1.heap.size) (nodeCells tn kn) 25 ∧ Blk wd (w1.heap.size + 1) (nodeCells t v) 25 := ⟨HNd.out, HXd.out⟩
  refine hK.out _ _ hS ?_
  clear hK K
  try simp only [Act.put, List.setIfInBounds_toArray, List.set_cons_zero, List.set_cons_succ]
  refine wpAnyH_take (i := 7) (oi := ⟨some 54, _, _, _, _, _⟩) (v := .bool true) rfl (by kernel_rfl) (by kernel_rfl) (by kernel_rfl) (fun _ _ _ h => h) (Or.inl ⟨by rfl, fun W _ => by go_simp⟩) hS ?_
  try simp only [Act.put, List.setIfInBounds_toArray, List.set_cons_zero, List.set_cons_succ]
  refine wpAnyH_take (i := 8) (oi := ⟨some 55, _, _, _, _, _⟩) (v := .bool true) rfl (by kernel_rfl) (by kernel_rfl) (by kernel_rfl) (fun _ _ _ h => h) (Or.inl ⟨by rfl, fun W _ => by go_simp⟩) hS ?_
  try simp only [Act.put, List.setIfInBounds_toArray, List.set_cons_zero, List.set_cons_succ]
  refine wpAnyH_take (i := 9) (oi := ⟨some 56, _, _, _, _, _⟩) (v := .bool true) rfl (by kernel_rfl) (by kernel_rfl) (by kernel_rfl) (fun _ _ _ h => h) (Or.inl ⟨by rfl, fun W _ => by go_simp⟩) hS ?_
  try simp only [Act.put, List.setIfInBounds_toArray, List.set_cons_zero, List.set_cons_succ]
  refine wpAnyH_take (i := 10) (oi := ⟨some 57, _, _, _, _, _⟩) (v := .agg #[.int .i64 (t).kind, .string (t).text, .int .i64 (t).num, .int .i64 (t).place, v]) rfl (by kernel_rfl) (by kernel_rfl) (by kernel_rfl) (fun _ _ _ h => h) (yieldsIf_load_mid (cs := nodeCells (t) (v)) (by rfl) 25 (.tmp 8) rfl (w1.heap.size + 1) (0) (by go_simp) _ (fun W hW j v hj => by rw [Nat.zero_add, (hW.2).cell j]; exact hj) Tryd.underlying25 rfl Tryd.sizeNode) hS ?_
  try simp only [Act.put, List.setIfInBounds_toArray, List.set_cons_zero, List.set_cons_succ]
  refine wpAnyH_take (i := 12) (oi := ⟨some 59, _, _, _, _, _⟩) (v := .agg #[.int .i64 (t).kind, .string (t).text, .int .i64 (t).num, .int .i64 (t).place, v]) rfl (by kernel_rfl) (by kernel_rfl) (by kernel_rfl) (fun _ _ _ h => h) (yieldsIf_load_mid (cs := nodeCells (t) (v)) (by rfl) 25 (.tmp 8) rfl (w1.heap.size + 1) (0) (by go_simp) _ (fun W hW j v hj => by rw [Nat.zero_add, (hW.2).cell j]; exact hj) Tryd.underlying25 rfl Tryd.sizeNode) hS ?_
  try simp only [Act.put, List.setIfInBounds_toArray, List.set_cons_zero, List.set_cons_succ]
  refine AnyH.one (i := 11) (o := ⟨some 58, _, _, _, _, _⟩) (by kernel_rfl) rfl (by rfl) (fun K hK => ?_)
  go_simp
  refine (size_any _ t (Nat.le_refl _) HKXd.out (by omega)).mono ?_
  rintro e wf ⟨rfl, hbf⟩
  have HNf := Lib.hid (HNd.out.below hbf)
  have HXf := Lib.hid (HXd.out.below hbf)
  have HKNf := Lib.hid (HKNd.out.below hbf)
  have HKXf := Lib.hid (HKXd.out.below hbf)
  have HBf := Lib.hid (HBd.out.trans (hbf.mono HBd.out.size))
  clear hbf hS
  have hS : Blk wf (w1.heap.size) (nodeCells tn kn) 25 ∧ Blk wf (w1.heap.size + 1) (nodeCells t v) 25 := ⟨HNf.out, HXf.out⟩
  refine hK.out _ _ hS ?_
  clear hK K
  try simp only [Act.put, List.setIfInBounds_toArray, List.set_cons_zero, List.set_cons_succ]
  refine AnyH.one (i := 13) (o := ⟨some 60, _, _, _, _, _⟩) (by kernel_rfl) rfl (by rfl) (fun K hK => ?_)
  go_simp
  refine (refTree_any _ t (Nat.le_refl _) HKXf.out (by omega)).mono ?_
  rintro e wg ⟨kg, rfl, hkg, hbg⟩
  have HRg := Lib.hid hkg
  have HNg := Lib.hid (HNf.out.below hbg)
  have HXg := Lib.hid (HXf.out.below hbg)
  have HKNg := Lib.hid (HKNf.out.below hbg)
  have HKXg := Lib.hid (HKXf.out.below hbg)
  have HBg := Lib.hid (HBf.out.trans (hbg.mono HBf.out.size))
  clear hbg hkg hS
  unfold NodeV
  have hS : Blk wg (w1.heap.size) (nodeCells tn kn) 25 ∧ Blk wg (w1.heap.size + 1) (nodeCells t v) 25 := ⟨HNg.out, HXg.out⟩
  refine hK.out _ _ hS ?_
  clear hK K
  try simp only [Act.put, List.setIfInBounds_toArray, List.set_cons_zero, List.set_cons_succ]
  refine AnyH.one (i := 14) (o := ⟨some 61, _, _, _, _, _⟩) (by kernel_rfl) rfl (by rfl) (fun K hK => ?_)
  go_simp
  refine (refSize_any _ t (Nat.le_refl _) HRg.out (by omega)).mono ?_
  rintro e wh ⟨rfl, hbh⟩
  have HNh := Lib.hid (HNg.out.below hbh)
  have HXh := Lib.hid (HXg.out.below hbh)
  have HKNh := Lib.hid (HKNg.out.below hbh)
  have HKXh := Lib.hid (HKXg.out.below hbh)
  have HBh := Lib.hid (HBg.out.trans (hbh.mono HBg.out.size))
  clear hbh hS
  have hS : Blk wh (w1.heap.size) (nodeCells tn kn) 25 ∧ Blk wh (w1.heap.size + 1) (nodeCells t v) 25 := ⟨HNh.out, HXh.out⟩
  refine hK.out _ _ hS ?_
  clear hK K
  try simp only [Act.put, List.setIfInBounds_toArray, List.set_cons_zero, List.set_cons_succ]
  refine wpAnyH_take (i := 15) (oi := ⟨some 62, _, _, _, _, _⟩) (v := .bool true) rfl (by kernel_rfl) (by kernel_rfl) (by kernel_rfl) (fun _ _ _ h => h) (Or.inl ⟨by rfl, fun W _ => by go_simp⟩) hS ?_
  try simp only [Act.put, List.setIfInBounds_toArray, List.set_cons_zero, List.set_cons_succ]
  refine wpAnyH_take (i := 16) (oi := ⟨some 63, _, _, _, _, _⟩) (v := .bool true) rfl (by kernel_rfl) (by kernel_rfl) (by kernel_rfl) (fun _ _ _ h => h) (Or.inl ⟨by rfl, fun W _ => by go_simp⟩) hS ?_
  try simp only [Act.put, List.setIfInBounds_toArray, List.set_cons_zero, List.set_cons_succ]
  refine wpAnyH_take (i := 17) (oi := ⟨some 64, _, _, _, _, _⟩) (v := .bool true) rfl (by kernel_rfl) (by kernel_rfl) (by kernel_rfl) (fun _ _ _ h => h) (Or.inl ⟨by rfl, fun W _ => by go_simp⟩) hS ?_
  try simp only [Act.put, List.setIfInBounds_toArray, List.set_cons_zero, List.set_cons_succ]
  refine wpAnyH_take (i := 18) (oi := ⟨some 65, _, _, _, _, _⟩) (v := .agg #[.int .i64 (t).kind, .string (t).text, .int .i64 (t).num, .int .i64 (t).place, v]) rfl (by kernel_rfl) (by kernel_rfl) (by kernel_rfl) (fun _ _ _ h => h) (yieldsIf_load_mid (cs := nodeCells (t) (v)) (by rfl) 25 (.tmp 8) rfl (w1.heap.size + 1) (0) (by go_simp) _ (fun W hW j v hj => by rw [Nat.zero_add, (hW.2).cell j]; exact hj) Tryd.underlying25 rfl Tryd.sizeNode) hS ?_
  try simp only [Act.put, List.setIfInBounds_toArray, List.set_cons_zero, List.set_cons_succ]
  refine wpAnyH_take (i := 20) (oi := ⟨some 67, _, _, _, _, _⟩) (v := .slice sa 0 cap) rfl (by kernel_rfl) (by kernel_rfl) (by kernel_rfl) (fun _ _ _ h => h) (Or.inl ⟨by rfl, fun W _ => by go_simp⟩) hS ?_
  try simp only [Act.put, List.setIfInBounds_toArray, List.set_cons_zero, List.set_cons_succ]
  refine wpAnyH_take (i := 21) (oi := ⟨some 68, _, _, _, _, _⟩) (v := .int .i64 (0)) rfl (by kernel_rfl) (by kernel_rfl) (by kernel_rfl) (fun _ _ _ h => h) (Or.inl ⟨by rfl, fun W _ => by go_simp⟩) hS ?_
  try simp only [Act.put, List.setIfInBounds_toArray, List.set_cons_zero, List.set_cons_succ]
  refine wpAnyH_take (i := 22) (oi := ⟨some 69, _, _, _, _, _⟩) (v := .int .i64 (0)) rfl (by kernel_rfl) (by kernel_rfl) (by kernel_rfl) (fun _ _ _ h => h) (Or.inl ⟨by rfl, fun W _ => by go_simp⟩) hS ?_
  try simp only [Act.put, List.setIfInBounds_toArray, List.set_cons_zero, List.set_cons_succ]
  refine wpAnyH_take (i := 23) (oi := ⟨some 70, _, _, _, _, _⟩) (v := .int .i64 (1)) rfl (by kernel_rfl) (by kernel_rfl) (by kernel_rfl) (fun _ _ _ h => h) (Or.inl ⟨by rfl, fun W _ => by go_simp⟩) hS ?_
  try simp only [Act.put, List.setIfInBounds_toArray, List.set_cons_zero, List.set_cons_succ]
  refine AnyH.one (i := 19) (o := ⟨some 66, _, _, _, _, _⟩) (by kernel_rfl) rfl (by rfl) (fun K hK => ?_)
  go_simp
  refine (size_any _ t (Nat.le_refl _) HKXh.out (by omega)).mono ?_
  rintro e wi ⟨rfl, hbi⟩
  have HNi := Lib.hid (HNh.out.below hbi)
  have HXi := Lib.hid (HXh.out.below hbi)
  have HKNi := Lib.hid (HKNh.out.below hbi)
  have HKXi := Lib.hid (HKXh.out.below hbi)
  have HBi := Lib.hid (HBh.out.trans (hbi.mono HBh.out.size))
  clear hbi hS
  have hS : Blk wi (w1.heap.size) (nodeCells tn kn) 25 ∧ Blk wi (w1.heap.size + 1) (nodeCells t v) 25 := ⟨HNi.out, HXi.out⟩
  refine hK.out _ _ hS ?_
  clear hK K
  try simp only [Act.put, List.setIfInBounds_toArray, List.set_cons_zero, List.set_cons_succ]
  refine wpAnyH_take (i := 24) (oi := ⟨some 71, _, _, _, _, _⟩) (v := .bool true) rfl (by kernel_rfl) (by kernel_rfl) (by kernel_rfl) (fun _ _ _ h => h) (Or.inl ⟨by rfl, fun W _ => by go_simp⟩) hS ?_
  try simp only [Act.put, List.setIfInBounds_toArray, List.set_cons_zero, List.set_cons_succ]
  refine wpAnyH_take (i := 25) (oi := ⟨some 72, _, _, _, _, _⟩) (v := .bool true) rfl (by kernel_rfl) (by kernel_rfl) (by kernel_rfl) (fun _ _ _ h => h) (Or.inl ⟨by rfl, fun W _ => by go_simp⟩) hS ?_
  try simp only [Act.put, List.setIfInBounds_toArray, List.set_cons_zero, List.set_cons_succ]
  refine wpAnyH_take (i := 26) (oi := ⟨some 4, _, _, _, _, _⟩) (v := .bool true) rfl (by kernel_rfl) (by kernel_rfl) (by kernel_rfl) (fun _ _ _ h => h) (Or.inl ⟨by rfl, fun W _ => by go_simp⟩) hS ?_
  try simp only [Act.put, List.setIfInBounds_toArray, List.set_cons_zero, List.set_cons_succ]
  refine wpAnyH_done (by kernel_rfl) ?_ _
  clear hS
  go_wp2
  go_ret
  exact ⟨rfl, HBi.out⟩
def SzRel (w1 : World) (m gk : Nat) (i : Value) (wr : World) : Prop :=
  ∃ (k : Nat) (t : T) (v : Value), k ≤ m ∧ m ≤ k + gk ∧ i = .int .i64 k ∧ Below w1.heap.size w1 wr ∧ Blk wr w1.heap.size (nodeCells t v) 25 ∧ KAt 25 wr t.kids (fun b => w1.heap.size < b) v ∧ t.size = 1 + k

set_option maxHeartbeats 4000000 in
set_option maxRecDepth 100000 in
theorem syntaxSizes_few (a : ByteArray) (b off cap : Nat) (zs : List Int) (w : World) (hsa : a.size ≤ maxLen) (hpos : 0 < zs.length) (hbw : b < w.heap.size) (hcap : zs.length ≤ cap) (_ : cap ≤ maxLen)
    (hcell : ∀ i, i < zs.length → w.cell? ⟨b, off + i, none⟩ = some (.int .i64 (zs.getD i 0))) (hlen : zs.length ≤ 50) (ht : Tabs w) :
    Calls Tryd.prog 4 #[.string a, .slice (some ⟨b, off, none⟩) zs.length cap] w fun e w' => e = .returned (.bool true) ∧ Below w.heap.size w w' := by
  obtain ⟨i0, z0, I⟩ := Tryd.nodeInfo
  have HC := Lib.hid hcell
  have HBW := Lib.hid hbw
  have HLEN := Lib.hid hlen
  have hlz : (zs.length : Int) ≤ 50 := by omega
  have hlz2 : ((50 : Int) < (zs.length : Int)) = False := eq_false (by omega)
  clear hcell hbw hlen
  have HT := Lib.hid ht
  cases hq : parseB a with
  | mk tn q =>
  obtain ⟨p, c⟩ := q
  have HQ := Lib.hid hq
  have hzn : tn.size ≤ 4096 := by have := (parse_good a).2; rw [hq] at this; exact this
  clear hq ht
  go_enter Tryd.func4, Tryd.ntmps4
  go_wp2_with fail
  refine (parse_any a w hsa HT.out).mono ?_
  rw [HQ.out]
  rintro e w1 ⟨kn, rfl, hk, hb⟩
  have HK1 := Lib.hid (show KAt 25 w1 tn.kids (fun b => w.heap.size ≤ b) kn from hk)
  have HO1 := Lib.hid HK1.out.one
  have HB1 := Lib.hid hb
  have HN2 := Lib.hid (Blk.new w1 (nodeCells tn kn) 25)
  have HKN2 := Lib.hid (HK1.out.alloc (.cells (nodeCells tn kn).toArray 25))
  have HB2 := Lib.hid (hb.alloc hb.size (.cells (nodeCells tn kn).toArray 25))
  clear hk hb HK1
  unfold NodeV
  have HX3 := Lib.hid (Blk.new (w1.alloc (.cells (nodeCells tn kn).toArray 25)) (nodeCells zeroT (.slice none 0 0)) 25)
  go_wp2_with (first | ((with_reducible refine at_st 25 (.tmp 5) ?_); refine wpList_store_new rfl 25 (.tmp 5) (.tmp 15) rfl (nodeCells tn kn) (old := zeroNodeCells) rfl rfl Tryd.sizeNode rfl (nodeCells_one _ _ HO1.out) ?_; refine at_world (w1.alloc (.cells (nodeCells tn kn).toArray 25)) ?_; generalize hw2 : w1.alloc (.cells (nodeCells tn kn).toArray 25) = w2 at HN2 HKN2 HB2 HX3 ⊢; clear hw2) | ((with_reducible refine at_st 25 (.tmp 8) ?_); refine wpList_store_new rfl 25 (.tmp 8) (.tmp 18) rfl (nodeCells zeroT (.slice none 0 0)) (old := zeroNodeCells) rfl rfl Tryd.sizeNode rfl (nodeCells_one zeroT _ rfl) ?_))
  go_loopg [25] zs.length (fun gk i wr => SzRel w2 zs.length gk i wr)
  case atStart =>
    refine ⟨0, zeroT, .slice none 0 0, by omega, by omega, rfl, (Below.refl _ _).alloc (Nat.le_refl _) _, HX3.out, KAt.nil _ _ _, ?_⟩
    unfold zeroT; rw [size_mk, sizes_nil]
  case round =>
    obtain ⟨k, t, v, hk, hgk, rfl, hbel, hblk, hkat, hsz⟩ := hrel
    have HB := Lib.hid hbel
    have HX := Lib.hid hblk
    have HK := Lib.hid hkat
    have HSZ := Lib.hid hsz
    have hzw := hblk.lt
    have hk100 : k ≤ 100 := by omega
    clear hbel hblk hkat hsz HX3
    by_cases hlt : k < zs.length
    · have hwb : w.heap.size ≤ w2.heap.size := HB2.out.size
      have hcc : wr.cell? ⟨b, off + k, none⟩ = some (.int .i64 (zs.getD k 0)) := by
        have h1 := HC.out k (by omega)
        have h2 := HBW.out
        rw [HB.out.cell (p := ⟨b, off + k, none⟩) (show b < w2.heap.size by omega), HB2.out.cell (p := ⟨b, off + k, none⟩) (show b < w.heap.size from h2)]
        exact h1
      have hbr : b < wr.heap.size := by have := HBW.out; have := HB.out.size; omega
      obtain ⟨kk, hkk⟩ : ∃ kk, zs.getD k 0 = kk := ⟨_, rfl⟩
      rw [hkk] at hcc
      clear hkk
      have hk64 : (k : Int) ≤ 100 := by omega
      have HY := Lib.hid (Blk.new wr (nodeCells (.mk kk e0 k 0 []) (.slice none 0 0)) 25)
      have HXy := Lib.hid (HX.out.alloc (.cells (nodeCells (.mk kk e0 k 0 []) (.slice none 0 0)).toArray 25))
      have HKy := Lib.hid (HK.out.keep (S' := fun b => w2.heap.size < b ∧ b < wr.heap.size) (w' := wr.alloc (.cells (nodeCells (.mk kk e0 k 0 []) (.slice none 0 0)).toArray 25)) (fun b hb hl => ⟨⟨hb, hl⟩, Below.heap_alloc wr _ b hl⟩))
      have HBy := Lib.hid (HB.out.alloc HB.out.size (.cells (nodeCells (.mk kk e0 k 0 []) (.slice none 0 0)).toArray 25))
      have hly : wr.heap.size < (wr.alloc (.cells (nodeCells (.mk kk e0 k 0 []) (.slice none 0 0)).toArray 25)).heap.size := by simp
      cases hpar : (kk.tmod 2 == 0) with
      | true =>
        go_wp2_with (first
          | ((with_reducible refine at_st 25 (.tmp 11) ?_); refine wpList_store_new rfl 25 (.tmp 11) (.tmp 32) rfl (nodeCells (.mk kk e0 k 0 []) (.slice none 0 0)) (old := zeroNodeCells) rfl rfl Tryd.sizeNode rfl (nodeCells_one _ _ rfl) ?_; refine at_world (wr.alloc (.cells (nodeCells (.mk kk e0 k 0 []) (.slice none 0 0)).toArray 25)) ?_; generalize hwy : wr.alloc (.cells (nodeCells (.mk kk e0 k 0 []) (.slice none 0 0)).toArray 25) = wy at HY HXy HKy HBy hly ⊢; clear hwy)
          | ((with_reducible refine at_ld 25 (.tmp 8) ?_); refine wpList_load_node rfl 25 (.tmp 8) rfl w2.heap.size t v rfl HXy.out Tryd.underlying25 rfl Tryd.sizeNode ?_; have HLn := Lib.hid (Blk.new wy (nodeCells t v) 25); have HYl := Lib.hid (HY.out.alloc (.cells (nodeCells t v).toArray 25)); have HXl := Lib.hid (HXy.out.alloc (.cells (nodeCells t v).toArray 25)); have HBl := Lib.hid (HBy.out.alloc HBy.out.size (.cells (nodeCells t v).toArray 25)); have HKl := Lib.hid (KAt.lit1 (S := fun b => w2.heap.size < b ∧ b ≠ wr.heap.size) (TAt.of_kids (HKy.out.mono (fun b hb _ => ⟨hb.1, by omega⟩))) ⟨by omega, by omega⟩); have hll : wy.heap.size < (wy.alloc (.cells (nodeCells t v).toArray 25)).heap.size := (by simp))
          | ((with_reducible refine at_st 23 (.tmp 38) ?_); refine at_world (wy.alloc (.cells (nodeCells t v).toArray 25)) ?_; generalize hwl : wy.alloc (.cells (nodeCells t v).toArray 25) = wl at HYl HXl HBl HKl hll ⊢; clear hwl HLn; have hcell := HYl.out.cell 4; have hfroz := HYl.out.frozen 4; rw [show (nodeCells (.mk kk e0 k 0 []) (.slice none 0 0))[4]? = some (.slice none 0 0) from rfl] at hcell)
          | ((with_reducible refine at_ld 25 (.tmp 11) ?_); refine wpList_load_node rfl 25 (.tmp 11) rfl wr.heap.size (.mk kk e0 k 0 [t]) (.slice (some ⟨wy.heap.size, 0, none⟩) 1 1) rfl (HYl.out.setSame 4 _) Tryd.underlying25 rfl Tryd.sizeNode ?_)
          | ((with_reducible refine at_st 25 (.tmp 8) ?_); refine wpList_store_blk rfl 25 (.tmp 8) (.tmp 39) rfl w2.heap.size (nodeCells (.mk kk e0 k 0 [t]) (.slice (some ⟨wy.heap.size, 0, none⟩) 1 1)) rfl rfl (HXl.out.setOther ⟨wr.heap.size, 4, none⟩ _ (by show w2.heap.size ≠ wr.heap.size; omega)) Tryd.sizeNode rfl (nodeCells_one _ _ rfl) ?_))
        go_roundg (gk - 1)
        case measure => omega
        case rel =>
          refine ⟨k + 1, .mk kk e0 k 0 [t], _, by omega, by omega, by go_num, ?_, (HXl.out.setOther ⟨wr.heap.size, 4, none⟩ _ (by show w2.heap.size ≠ wr.heap.size; omega)).rowSame _, ?_, ?_⟩
          · exact below_setRow (HBl.out.setCell (p := ⟨wr.heap.size, 4, none⟩) (by show w2.heap.size ≤ wr.heap.size; omega) _) (Nat.le_refl _) _
          · exact ((HKl.out.setCell ⟨wr.heap.size, 4, none⟩ _ (fun b hb => hb.2)).setRow w2.heap.size _ (fun b hb => by omega)).mono (fun b hb _ => hb.1)
          · rw [size_mk, sizes_cons, sizes_nil, HSZ.out]; omega
      | false =>
        go_wp2_with (first
          | ((with_reducible refine at_st 25 (.tmp 11) ?_); refine wpList_store_new rfl 25 (.tmp 11) (.tmp 32) rfl (nodeCells (.mk kk e0 k 0 []) (.slice none 0 0)) (old := zeroNodeCells) rfl rfl Tryd.sizeNode rfl (nodeCells_one _ _ rfl) ?_; refine at_world (wr.alloc (.cells (nodeCells (.mk kk e0 k 0 []) (.slice none 0 0)).toArray 25)) ?_; generalize hwy : wr.alloc (.cells (nodeCells (.mk kk e0 k 0 []) (.slice none 0 0)).toArray 25) = wy at HY HXy HKy HBy hly ⊢; clear hwy; have hcx4 : wy.cell? ⟨w2.heap.size, 4, none⟩ = some v := HXy.out.cell 4)
          | ((with_reducible refine at_ld 25 (.tmp 11) ?_); refine wpList_load_node rfl 25 (.tmp 11) rfl wr.heap.size (.mk kk e0 k 0 []) (.slice none 0 0) rfl HY.out Tryd.underlying25 rfl Tryd.sizeNode ?_)
          | (at_builtin; refine wpList_append_trees rfl (.tmp 41) (.tmp 43) rfl I (ts := [.mk kk e0 k 0 []]) (S := fun b => w2.heap.size < b) rfl ((HKy.out.mono (fun b hb _ => hb.1)).alloc _) (us := [.slice none 0 0]) (TsAt.single ((KAt.nil _ _ _).tat _ _ _ _)) (by simp; omega) rfl rfl (by simp) (lit1_at wy _ (.mk kk e0 k 0 []) (.slice none 0 0)) (by have := kids_len t; have := HSZ.out; simp; omega) ?_))
        intro v4 w4 hK4 hg4 _
        have hrow : ∀ g, v.ownBlock = some g → w2.heap.size < g := fun g hg => by obtain ⟨_, _, hS, _⟩ := HK.out; exact hS g hg
        have HX4 := Lib.hid ((HXy.out.alloc (.cells (nodeCells (.mk kk e0 k 0 []) (.slice none 0 0)).toArray 25)).grown hg4 (fun e => by have := hrow _ e.symm; omega))
        have HB4 := Lib.hid ((HBy.out.alloc HBy.out.size (.cells (nodeCells (.mk kk e0 k 0 []) (.slice none 0 0)).toArray 25)).grown hg4 (by simp; have := HBy.out.size; omega) (fun g hg => by have := hrow g hg; omega))
        have HK4 := Lib.hid hK4
        obtain ⟨sa4, sn4, sc4, rfl⟩ := hK4.slice
        have hcell : w4.cell? ⟨w2.heap.size, 4, none⟩ = some v := HX4.out.cell 4
        have hfroz := HX4.out.frozen 4
        clear hg4 hK4 hrow hcx4
        go_wp2
        go_roundg (gk - 1)
        case measure => omega
        case rel =>
          refine ⟨k + 1, .mk t.kind t.text t.num t.place (t.kids ++ [.mk kk e0 k 0 []]), .slice sa4 sn4 sc4, by omega, by omega, by go_num, HB4.out.setCell (by show w2.heap.size ≤ w2.heap.size; omega) _, HX4.out.setSame 4 _, HK4.out.setCell _ _ (fun b hb => by show b ≠ w2.heap.size; omega), ?_⟩
          have e1 : t.size = 1 + sizes t.kids := by cases t; rw [size_mk]; rfl
          rw [size_mk, sizes_append, sizes_cons, sizes_nil, size_mk, sizes_nil]
          have := HSZ.out
          omega
    · have hke : k = zs.length := by omega
      have HNz := Lib.hid (HN2.out.below HB.out)
      have HKNz := Lib.hid (HKN2.out.below HB.out)
      have HXz := HX
      have HKXz := HK
      have HBz := Lib.hid (HB2.out.trans (HB.out.mono HB2.out.size))
      have HTz := Lib.hid (HT.out.below HBz.out HT.out.size)
      have hzt : t.size ≤ 100 := by have := HSZ.out; omega
      have heq : ((t.size : Int) == 1 + (zs.length : Int)) = true := by rw [HSZ.out, hke]; simp
      have hw1 : IntKind.i64.wrap (1 + (zs.length : Int)) = 1 + (zs.length : Int) := IntWalk.i64_in _ (by omega)
      clear hke
      go_wp2_with fail
      refine wp_region_held_drew (S := fun W => Blk W (w1.heap.size) (nodeCells tn kn) 25 ∧ Blk W (w2.heap.size) (nodeCells t v) 25) (by kernel_rfl) (⟨HNz.out.drew, HXz.out.drew⟩) (fun hS => ?_)
      refine AnyH.one (i := 0) (o := ⟨some 47, _, _, _, _, _⟩) (by kernel_rfl) rfl (by rfl) (fun K hK => ?_)
      go_simp
      refine (wakes_any _ (show Tabs (wr).drew from HTz.out.below (Below.refl _ _).drew HTz.out.size)).mono ?_
      rintro e wa ⟨rfl, hba⟩
      have HNa := Lib.hid (HNz.out.drew.below hba)
      have HXa := Lib.hid (HXz.out.drew.below hba)
      have HKNa := Lib.hid (HKNz.out.drew.below hba)
      have HKXa := Lib.hid (HKXz.out.drew.below hba)
      have HBa := Lib.hid (HBz.out.drew.trans (hba.mono HBz.out.drew.size))
      clear hba hS
      have hS : Blk wa (w1.heap.size) (nodeCells tn kn) 25 ∧ Blk wa (w2.heap.size) (nodeCells t v) 25 := ⟨HNa.out, HXa.out⟩
      refine hK.out _ _ hS ?_
      clear hK K
      try simp only [Act.put, List.setIfInBounds_toArray, List.set_cons_zero, List.set_cons_succ]
      refine wpAnyH_take (i := 1) (oi := ⟨some 48, _, _, _, _, _⟩) (v := .bool true) rfl (by kernel_rfl) (by kernel_rfl) (by kernel_rfl) (fun _ _ _ h => h) (Or.inl ⟨by rfl, fun W _ => by go_simp⟩) hS ?_
      try simp only [Act.put, List.setIfInBounds_toArray, List.set_cons_zero, List.set_cons_succ]
      refine wpAnyH_take (i := 2) (oi := ⟨some 49, _, _, _, _, _⟩) (v := .agg #[.int .i64 (tn).kind, .string (tn).text, .int .i64 (tn).num, .int .i64 (tn).place, kn]) rfl (by kernel_rfl) (by kernel_rfl) (by kernel_rfl) (fun _ _ _ h => h) (yieldsIf_load_mid (cs := nodeCells (tn) (kn)) (by rfl) 25 (.tmp 5) rfl (w1.heap.size) (0) (by go_simp) _ (fun W hW j v hj => by rw [Nat.zero_add, (hW.1).cell j]; exact hj) Tryd.underlying25 rfl Tryd.sizeNode) hS ?_
      try simp only [Act.put, List.setIfInBounds_toArray, List.set_cons_zero, List.set_cons_succ]
      refine wpAnyH_take (i := 4) (oi := ⟨some 51, _, _, _, _, _⟩) (v := .agg #[.int .i64 (tn).kind, .string (tn).text, .int .i64 (tn).num, .int .i64 (tn).place, kn]) rfl (by kernel_rfl) (by kernel_rfl) (by kernel_rfl) (fun _ _ _ h => h) (yieldsIf_load_mid (cs := nodeCells (tn) (kn)) (by rfl) 25 (.tmp 5) rfl (w1.heap.size) (0) (by go_simp) _ (fun W hW j v hj => by rw [Nat.zero_add, (hW.1).cell j]; exact hj) Tryd.underlying25 rfl Tryd.sizeNode) hS ?_
      try simp only [Act.put, List.setIfInBounds_toArray, List.set_cons_zero, List.set_cons_succ]
      refine AnyH.one (i := 3) (o := ⟨some 50, _, _, _, _, _⟩) (by kernel_rfl) rfl (by rfl) (fun K hK => ?_)
      go_simp
      refine (size_any _ tn (Nat.le_refl _) HKNa.out (by omega)).mono ?_
      rintro e wb ⟨rfl, hbb⟩
      have HNb := Lib.hid (HNa.out.below hbb)
      have HXb := Lib.hid (HXa.out.below hbb)
      have HKNb := Lib.hid (HKNa.out.below hbb)
      have HKXb := Lib.hid (HKXa.out.below hbb)
      have HBb := Lib.hid (HBa.out.trans (hbb.mono HBa.out.size))
      clear hbb hS
      have hS : Blk wb (w1.heap.size) (nodeCells tn kn) 25 ∧ Blk wb (w2.heap.size) (nodeCells t v) 25 := ⟨HNb.out, HXb.out⟩
      refine hK.out _ _ hS ?_
      clear hK K
      try simp only [Act.put, List.setIfInBounds_toArray, List.set_cons_zero, List.set_cons_succ]
      refine AnyH.one (i := 5) (o := ⟨some 52, _, _, _, _, _⟩) (by kernel_rfl) rfl (by rfl) (fun K hK => ?_)
      go_simp
      refine (refTree_any _ tn (Nat.le_refl _) HKNb.out (by omega)).mono ?_
      rintro e wc ⟨kc, rfl, hkc, hbc⟩
      have HRc := Lib.hid hkc
      have HNc := Lib.hid (HNb.out.below hbc)
      have HXc := Lib.hid (HXb.out.below hbc)
      have HKNc := Lib.hid (HKNb.out.below hbc)
      have HKXc := Lib.hid (HKXb.out.below hbc)
      have HBc := Lib.hid (HBb.out.trans (hbc.mono HBb.out.size))
      clear hbc hkc hS
      unfold NodeV
      have hS : Blk wc (w1.heap.size) (nodeCells tn kn) 25 ∧ Blk wc (w2.heap.size) (nodeCells t v) 25 := ⟨HNc.out, HXc.out⟩
      refine hK.out _ _ hS ?_
      clear hK K
      try simp only [Act.put, List.setIfInBounds_toArray, List.set_cons_zero, List.set_cons_succ]
      refine AnyH.one (i := 6) (o := ⟨some 53, _, _, _, _, _⟩) (by kernel_rfl) rfl (by rfl) (fun K hK => ?_)
      go_simp
      refine (refSize_any _ tn (Nat.le_refl _) HRc.out (by omega)).mono ?_
      rintro e wd ⟨rfl, hbd⟩
      have HNd := Lib.hid (HNc.out.below hbd)
      have HXd := Lib.hid (HXc.out.below hbd)
      have HKNd := Lib.hid (HKNc.out.below hbd)
      have HKXd := Lib.hid (HKXc.out.below hbd)
      have HBd := Lib.hid (HBc.out.trans (hbd.mono HBc.out.size))
      clear hbd hS
      have hS : Blk wd (w1.heap.size) (nodeCells tn kn) 25 ∧ Blk wd (w2.heap.size) (nodeCells t v) 25 := ⟨HNd.out, HXd.out⟩
      refine hK.out _ _ hS ?_
      clear hK K
      try simp only [Act.put, List.setIfInBounds_toArray, List.set_cons_zero, List.set_cons_succ]
      refine wpAnyH_take (i := 7) (oi := ⟨some 54, _, _, _, _, _⟩) (v := .bool true) rfl (by kernel_rfl) (by kernel_rfl) (by kernel_rfl) (fun _ _ _ h => h) (Or.inl ⟨by rfl, fun W _ => by go_simp⟩) hS ?_
      try simp only [Act.put, List.setIfInBounds_toArray, List.set_cons_zero, List.set_cons_succ]
      refine wpAnyH_take (i := 8) (oi := ⟨some 55, _, _, _, _, _⟩) (v := .bool true) rfl (by kernel_rfl) (by kernel_rfl) (by kernel_rfl) (fun _ _ _ h => h) (Or.inl ⟨by rfl, fun W _ => by go_simp⟩) hS ?_
      try simp only [Act.put, List.setIfInBounds_toArray, List.set_cons_zero, List.set_cons_succ]
      refine wpAnyH_take (i := 9) (oi := ⟨some 56, _, _, _, _, _⟩) (v := .bool true) rfl (by kernel_rfl) (by kernel_rfl) (by kernel_rfl) (fun _ _ _ h => h) (Or.inl ⟨by rfl, fun W _ => by go_simp⟩) hS ?_
      try simp only [Act.put, List.setIfInBounds_toArray, List.set_cons_zero, List.set_cons_succ]
      refine wpAnyH_take (i := 10) (oi := ⟨some 57, _, _, _, _, _⟩) (v := .agg #[.int .i64 (t).kind, .string (t).text, .int .i64 (t).num, .int .i64 (t).place, v]) rfl (by kernel_rfl) (by kernel_rfl) (by kernel_rfl) (fun _ _ _ h => h) (yieldsIf_load_mid (cs := nodeCells (t) (v)) (by rfl) 25 (.tmp 8) rfl (w2.heap.size) (0) (by go_simp) _ (fun W hW j v hj => by rw [Nat.zero_add, (hW.2).cell j]; exact hj) Tryd.underlying25 rfl Tryd.sizeNode) hS ?_
      try simp only [Act.put, List.setIfInBounds_toArray, List.set_cons_zero, List.set_cons_succ]
      refine wpAnyH_take (i := 12) (oi := ⟨some 59, _, _, _, _, _⟩) (v := .agg #[.int .i64 (t).kind, .string (t).text, .int .i64 (t).num, .int .i64 (t).place, v]) rfl (by kernel_rfl) (by kernel_rfl) (by kernel_rfl) (fun _ _ _ h => h) (yieldsIf_load_mid (cs := nodeCells (t) (v)) (by rfl) 25 (.tmp 8) rfl (w2.heap.size) (0) (by go_simp) _ (fun W hW j v hj => by rw [Nat.zero_add, (hW.2).cell j]; exact hj) Tryd.underlying25 rfl Tryd.sizeNode) hS ?_
      try simp only [Act.put, List.setIfInBounds_toArray, List.set_cons_zero, List.set_cons_succ]
      refine AnyH.one (i := 11) (o := ⟨some 58, _, _, _, _, _⟩) (by kernel_rfl) rfl (by rfl) (fun K hK => ?_)
      go_simp
      refine (size_any _ t (Nat.le_refl _) HKXd.out (by omega)).mono ?_
      rintro e wf ⟨rfl, hbf⟩
      have HNf := Lib.hid (HNd.out.below hbf)
      have HXf := Lib.hid (HXd.out.below hbf)
      have HKNf := Lib.hid (HKNd.out.below hbf)
      have HKXf := Lib.hid (HKXd.out.below hbf)
      have HBf := Lib.hid (HBd.out.trans (hbf.mono HBd.out.size))
      clear hbf hS
      have hS : Blk wf (w1.heap.size) (nodeCells tn kn) 25 ∧ Blk wf (w2.heap.size) (nodeCells t v) 25 := ⟨HNf.out, HXf.out⟩
      refine hK.out _ _ hS ?_
      clear hK K
      try simp only [Act.put, List.setIfInBounds_toArray, List.set_cons_zero, List.set_cons_succ]
      refine AnyH.one (i := 13) (o := ⟨some 60, _, _, _, _, _⟩) (by kernel_rfl) rfl (by rfl) (fun K hK => ?_)
      go_simp
      refine (refTree_any _ t (Nat.le_refl _) HKXf.out (by omega)).mono ?_
      rintro e wg ⟨kg, rfl, hkg, hbg⟩
      have HRg := Lib.hid hkg
      have HNg := Lib.hid (HNf.out.below hbg)
      have HXg := Lib.hid (HXf.out.below hbg)
      have HKNg := Lib.hid (HKNf.out.below hbg)
      have HKXg := Lib.hid (HKXf.out.below hbg)
      have HBg := Lib.hid (HBf.out.trans (hbg.mono HBf.out.size))
      clear hbg hkg hS
      unfold NodeV
      have hS : Blk wg (w1.heap.size) (nodeCells tn kn) 25 ∧ Blk wg (w2.heap.size) (nodeCells t v) 25 := ⟨HNg.out, HXg.out⟩
      refine hK.out _ _ hS ?_
      clear hK K
      try simp only [Act.put, List.setIfInBounds_toArray, List.set_cons_zero, List.set_cons_succ]
      refine AnyH.one (i := 14) (o := ⟨some 61, _, _, _, _, _⟩) (by kernel_rfl) rfl (by rfl) (fun K hK => ?_)
      go_simp
      refine (refSize_any _ t (Nat.le_refl _) HRg.out (by omega)).mono ?_
      rintro e wh ⟨rfl, hbh⟩
      have HNh := Lib.hid (HNg.out.below hbh)
      have HXh := Lib.hid (HXg.out.below hbh)
      have HKNh := Lib.hid (HKNg.out.below hbh)
      have HKXh := Lib.hid (HKXg.out.below hbh)
      have HBh := Lib.hid (HBg.out.trans (hbh.mono HBg.out.size))
      clear hbh hS
      have hS : Blk wh (w1.heap.size) (nodeCells tn kn) 25 ∧ Blk wh (w2.heap.size) (nodeCells t v) 25 := ⟨HNh.out, HXh.out⟩
      refine hK.out _ _ hS ?_
      clear hK K
      try simp only [Act.put, List.setIfInBounds_toArray, List.set_cons_zero, List.set_cons_succ]
      refine wpAnyH_take (i := 15) (oi := ⟨some 62, _, _, _, _, _⟩) (v := .bool true) rfl (by kernel_rfl) (by kernel_rfl) (by kernel_rfl) (fun _ _ _ h => h) (Or.inl ⟨by rfl, fun W _ => by go_simp⟩) hS ?_
      try simp only [Act.put, List.setIfInBounds_toArray, List.set_cons_zero, List.set_cons_succ]
      refine wpAnyH_take (i := 16) (oi := ⟨some 63, _, _, _, _, _⟩) (v := .bool true) rfl (by kernel_rfl) (by kernel_rfl) (by kernel_rfl) (fun _ _ _ h => h) (Or.inl ⟨by rfl, fun W _ => by go_simp⟩) hS ?_
      try simp only [Act.put, List.setIfInBounds_toArray, List.set_cons_zero, List.set_cons_succ]
      refine wpAnyH_take (i := 17) (oi := ⟨some 64, _, _, _, _, _⟩) (v := .bool true) rfl (by kernel_rfl) (by kernel_rfl) (by kernel_rfl) (fun _ _ _ h => h) (Or.inl ⟨by rfl, fun W _ => by go_simp⟩) hS ?_
      try simp only [Act.put, List.setIfInBounds_toArray, List.set_cons_zero, List.set_cons_succ]
      refine wpAnyH_take (i := 18) (oi := ⟨some 65, _, _, _, _, _⟩) (v := .agg #[.int .i64 (t).kind, .string (t).text, .int .i64 (t).num, .int .i64 (t).place, v]) rfl (by kernel_rfl) (by kernel_rfl) (by kernel_rfl) (fun _ _ _ h => h) (yieldsIf_load_mid (cs := nodeCells (t) (v)) (by rfl) 25 (.tmp 8) rfl (w2.heap.size) (0) (by go_simp) _ (fun W hW j v hj => by rw [Nat.zero_add, (hW.2).cell j]; exact hj) Tryd.underlying25 rfl Tryd.sizeNode) hS ?_
      try simp only [Act.put, List.setIfInBounds_toArray, List.set_cons_zero, List.set_cons_succ]
      refine wpAnyH_take (i := 20) (oi := ⟨some 67, _, _, _, _, _⟩) (v := .slice (some ⟨b, off, none⟩) zs.length cap) rfl (by kernel_rfl) (by kernel_rfl) (by kernel_rfl) (fun _ _ _ h => h) (Or.inl ⟨by rfl, fun W _ => by go_simp⟩) hS ?_
      try simp only [Act.put, List.setIfInBounds_toArray, List.set_cons_zero, List.set_cons_succ]
      refine wpAnyH_take (i := 21) (oi := ⟨some 68, _, _, _, _, _⟩) (v := .int .i64 ((zs.length : Int))) rfl (by kernel_rfl) (by kernel_rfl) (by kernel_rfl) (fun _ _ _ h => h) (Or.inl ⟨by rfl, fun W _ => by go_simp⟩) hS ?_
      try simp only [Act.put, List.setIfInBounds_toArray, List.set_cons_zero, List.set_cons_succ]
      refine wpAnyH_take (i := 22) (oi := ⟨some 69, _, _, _, _, _⟩) (v := .int .i64 ((zs.length : Int))) rfl (by kernel_rfl) (by kernel_rfl) (by kernel_rfl) (fun _ _ _ h => h) (Or.inl ⟨by rfl, fun W _ => by go_simp⟩) hS ?_
      try simp only [Act.put, List.setIfInBounds_toArray, List.set_cons_zero, List.set_cons_succ]
      refine wpAnyH_take (i := 23) (oi := ⟨some 70, _, _, _, _, _⟩) (v := .int .i64 (1 + (zs.length : Int))) rfl (by kernel_rfl) (by kernel_rfl) (by kernel_rfl) (fun _ _ _ h => h) (Or.inl ⟨by rfl, fun W _ => by go_simp⟩) hS ?_
      try simp only [Act.put, List.setIfInBounds_toArray, List.set_cons_zero, List.set_cons_succ]
      refine AnyH.one (i := 19) (o := ⟨some 66, _, _, _, _, _⟩) (by kernel_rfl) rfl (by rfl) (fun K hK => ?_)
      go_simp
      refine (size_any _ t (Nat.le_refl _) HKXh.out (by omega)).mono ?_
      rintro e wi ⟨rfl, hbi⟩
      have HNi := Lib.hid (HNh.out.below hbi)
      have HXi := Lib.hid (HXh.out.below hbi)
      have HKNi := Lib.hid (HKNh.out.below hbi)
      have HKXi := Lib.hid (HKXh.out.below hbi)
      have HBi := Lib.hid (HBh.out.trans (hbi.mono HBh.out.size))
      clear hbi hS
      have hS : Blk wi (w1.heap.size) (nodeCells tn kn) 25 ∧ Blk wi (w2.heap.size) (nodeCells t v) 25 := ⟨HNi.out, HXi.out⟩
      refine hK.out _ _ hS ?_
      clear hK K
      try simp only [Act.put, List.setIfInBounds_toArray, List.set_cons_zero, List.set_cons_succ]
      refine wpAnyH_take (i := 24) (oi := ⟨some 71, _, _, _, _, _⟩) (v := .bool true) rfl (by kernel_rfl) (by kernel_rfl) (by kernel_rfl) (fun _ _ _ h => h) (Or.inl ⟨by rfl, fun W _ => by go_simp⟩) hS ?_
      try simp only [Act.put, List.setIfInBounds_toArray, List.set_cons_zero, List.set_cons_succ]
      refine wpAnyH_take (i := 25) (oi := ⟨some 72, _, _, _, _, _⟩) (v := .bool true) rfl (by kernel_rfl) (by kernel_rfl) (by kernel_rfl) (fun _ _ _ h => h) (Or.inl ⟨by rfl, fun W _ => by go_simp⟩) hS ?_
      try simp only [Act.put, List.setIfInBounds_toArray, List.set_cons_zero, List.set_cons_succ]
      refine wpAnyH_take (i := 26) (oi := ⟨some 4, _, _, _, _, _⟩) (v := .bool true) rfl (by kernel_rfl) (by kernel_rfl) (by kernel_rfl) (fun _ _ _ h => h) (Or.inl ⟨by rfl, fun W _ => by go_simp⟩) hS ?_
      try simp only [Act.put, List.setIfInBounds_toArray, List.set_cons_zero, List.set_cons_succ]
      refine wpAnyH_done (by kernel_rfl) ?_ _
      clear hS
      go_wp2
      go_ret
      exact ⟨rfl, HBi.out⟩

set_option maxHeartbeats 4000000 in
set_option maxRecDepth 100000 in
theorem syntaxSizes_many (a : ByteArray) (b off cap : Nat) (zs : List Int) (w : World) (hsa : a.size ≤ maxLen) (_ : 0 < zs.length) (hbw : b < w.heap.size) (hcap : zs.length ≤ cap) (hcm : cap ≤ maxLen)
    (hcell : ∀ i, i < zs.length → w.cell? ⟨b, off + i, none⟩ = some (.int .i64 (zs.getD i 0))) (hlen : 50 < zs.length) (ht : Tabs w) :
    Calls Tryd.prog 4 #[.string a, .slice (some ⟨b, off, none⟩) zs.length cap] w fun e w' => e = .returned (.bool true) ∧ Below w.heap.size w w' := by
  obtain ⟨i0, z0, I⟩ := Tryd.nodeInfo
  have HC := Lib.hid hcell
  have HBW := Lib.hid hbw
  have HLEN := Lib.hid hlen
  unfold maxLen at hcm
  have hlz : (50 : Int) < (zs.length : Int) := by omega
  clear hcell hbw hlen
  have HT := Lib.hid ht
  cases hq : parseB a with
  | mk tn q =>
  obtain ⟨p, c⟩ := q
  have HQ := Lib.hid hq
  have hzn : tn.size ≤ 4096 := by have := (parse_good a).2; rw [hq] at this; exact this
  clear hq ht
  go_enter Tryd.func4, Tryd.ntmps4
  go_wp2_with fail
  refine (parse_any a w hsa HT.out).mono ?_
  rw [HQ.out]
  rintro e w1 ⟨kn, rfl, hk, hb⟩
  have HK1 := Lib.hid (show KAt 25 w1 tn.kids (fun b => w.heap.size ≤ b) kn from hk)
  have HO1 := Lib.hid HK1.out.one
  have HB1 := Lib.hid hb
  have HN2 := Lib.hid (Blk.new w1 (nodeCells tn kn) 25)
  have HKN2 := Lib.hid (HK1.out.alloc (.cells (nodeCells tn kn).toArray 25))
  have HB2 := Lib.hid (hb.alloc hb.size (.cells (nodeCells tn kn).toArray 25))
  clear hk hb HK1
  unfold NodeV
  have HX3 := Lib.hid (Blk.new (w1.alloc (.cells (nodeCells tn kn).toArray 25)) (nodeCells zeroT (.slice none 0 0)) 25)
  go_wp2_with (first | ((with_reducible refine at_st 25 (.tmp 5) ?_); refine wpList_store_new rfl 25 (.tmp 5) (.tmp 15) rfl (nodeCells tn kn) (old := zeroNodeCells) rfl rfl Tryd.sizeNode rfl (nodeCells_one _ _ HO1.out) ?_; refine at_world (w1.alloc (.cells (nodeCells tn kn).toArray 25)) ?_; generalize hw2 : w1.alloc (.cells (nodeCells tn kn).toArray 25) = w2 at HN2 HKN2 HB2 HX3 ⊢; clear hw2) | ((with_reducible refine at_st 25 (.tmp 8) ?_); refine wpList_store_new rfl 25 (.tmp 8) (.tmp 18) rfl (nodeCells zeroT (.slice none 0 0)) (old := zeroNodeCells) rfl rfl Tryd.sizeNode rfl (nodeCells_one zeroT _ rfl) ?_))
  go_loopg [25] 50 (fun gk i wr => SzRel w2 50 gk i wr)
  case atStart =>
    refine ⟨0, zeroT, .slice none 0 0, by omega, by omega, rfl, (Below.refl _ _).alloc (Nat.le_refl _) _, HX3.out, KAt.nil _ _ _, ?_⟩
    unfold zeroT; rw [size_mk, sizes_nil]
  case round =>
    obtain ⟨k, t, v, hk, hgk, rfl, hbel, hblk, hkat, hsz⟩ := hrel
    have HB := Lib.hid hbel
    have HX := Lib.hid hblk
    have HK := Lib.hid hkat
    have HSZ := Lib.hid hsz
    have hzw := hblk.lt
    have hk100 : k ≤ 100 := by omega
    clear hbel hblk hkat hsz HX3
    by_cases hlt : k < 50
    · have hwb : w.heap.size ≤ w2.heap.size := HB2.out.size
      have hcc : wr.cell? ⟨b, off + k, none⟩ = some (.int .i64 (zs.getD k 0)) := by
        have h1 := HC.out k (by omega)
        have h2 := HBW.out
        rw [HB.out.cell (p := ⟨b, off + k, none⟩) (show b < w2.heap.size by omega), HB2.out.cell (p := ⟨b, off + k, none⟩) (show b < w.heap.size from h2)]
        exact h1
      have hbr : b < wr.heap.size := by have := HBW.out; have := HB.out.size; omega
      obtain ⟨kk, hkk⟩ : ∃ kk, zs.getD k 0 = kk := ⟨_, rfl⟩
      rw [hkk] at hcc
      clear hkk
      have hk64 : (k : Int) ≤ 100 := by omega
      have HY := Lib.hid (Blk.new wr (nodeCells (.mk kk e0 k 0 []) (.slice none 0 0)) 25)
      have HXy := Lib.hid (HX.out.alloc (.cells (nodeCells (.mk kk e0 k 0 []) (.slice none 0 0)).toArray 25))
      have HKy := Lib.hid (HK.out.keep (S' := fun b => w2.heap.size < b ∧ b < wr.heap.size) (w' := wr.alloc (.cells (nodeCells (.mk kk e0 k 0 []) (.slice none 0 0)).toArray 25)) (fun b hb hl => ⟨⟨hb, hl⟩, Below.heap_alloc wr _ b hl⟩))
      have HBy := Lib.hid (HB.out.alloc HB.out.size (.cells (nodeCells (.mk kk e0 k 0 []) (.slice none 0 0)).toArray 25))
      have hly : wr.heap.size < (wr.alloc (.cells (nodeCells (.mk kk e0 k 0 []) (.slice none 0 0)).toArray 25)).heap.size := by simp
      cases hpar : (kk.tmod 2 == 0) with
      | true =>
        go_wp2_with (first
          | ((with_reducible refine at_st 25 (.tmp 11) ?_); refine wpList_store_new rfl 25 (.tmp 11) (.tmp 32) rfl (nodeCells (.mk kk e0 k 0 []) (.slice none 0 0)) (old := zeroNodeCells) rfl rfl Tryd.sizeNode rfl (nodeCells_one _ _ rfl) ?_; refine at_world (wr.alloc (.cells (nodeCells (.mk kk e0 k 0 []) (.slice none 0 0)).toArray 25)) ?_; generalize hwy : wr.alloc (.cells (nodeCells (.mk kk e0 k 0 []) (.slice none 0 0)).toArray 25) = wy at HY HXy HKy HBy hly ⊢; clear hwy)
          | ((with_reducible refine at_ld 25 (.tmp 8) ?_); refine wpList_load_node rfl 25 (.tmp 8) rfl w2.heap.size t v rfl HXy.out Tryd.underlying25 rfl Tryd.sizeNode ?_; have HLn := Lib.hid (Blk.new wy (nodeCells t v) 25); have HYl := Lib.hid (HY.out.alloc (.cells (nodeCells t v).toArray 25)); have HXl := Lib.hid (HXy.out.alloc (.cells (nodeCells t v).toArray 25)); have HBl := Lib.hid (HBy.out.alloc HBy.out.size (.cells (nodeCells t v).toArray 25)); have HKl := Lib.hid (KAt.lit1 (S := fun b => w2.heap.size < b ∧ b ≠ wr.heap.size) (TAt.of_kids (HKy.out.mono (fun b hb _ => ⟨hb.1, by omega⟩))) ⟨by omega, by omega⟩); have hll : wy.heap.size < (wy.alloc (.cells (nodeCells t v).toArray 25)).heap.size := (by simp))
          | ((with_reducible refine at_st 23 (.tmp 38) ?_); refine at_world (wy.alloc (.cells (nodeCells t v).toArray 25)) ?_; generalize hwl : wy.alloc (.cells (nodeCells t v).toArray 25) = wl at HYl HXl HBl HKl hll ⊢; clear hwl HLn; have hcell := HYl.out.cell 4; have hfroz := HYl.out.frozen 4; rw [show (nodeCells (.mk kk e0 k 0 []) (.slice none 0 0))[4]? = some (.slice none 0 0) from rfl] at hcell)
          | ((with_reducible refine at_ld 25 (.tmp 11) ?_); refine wpList_load_node rfl 25 (.tmp 11) rfl wr.heap.size (.mk kk e0 k 0 [t]) (.slice (some ⟨wy.heap.size, 0, none⟩) 1 1) rfl (HYl.out.setSame 4 _) Tryd.underlying25 rfl Tryd.sizeNode ?_)
          | ((with_reducible refine at_st 25 (.tmp 8) ?_); refine wpList_store_blk rfl 25 (.tmp 8) (.tmp 39) rfl w2.heap.size (nodeCells (.mk kk e0 k 0 [t]) (.slice (some ⟨wy.heap.size, 0, none⟩) 1 1)) rfl rfl (HXl.out.setOther ⟨wr.heap.size, 4, none⟩ _ (by show w2.heap.size ≠ wr.heap.size; omega)) Tryd.sizeNode rfl (nodeCells_one _ _ rfl) ?_))
        go_roundg (gk - 1)
        case measure => omega
        case rel =>
          refine ⟨k + 1, .mk kk e0 k 0 [t], _, by omega, by omega, by go_num, ?_, (HXl.out.setOther ⟨wr.heap.size, 4, none⟩ _ (by show w2.heap.size ≠ wr.heap.size; omega)).rowSame _, ?_, ?_⟩
          · exact below_setRow (HBl.out.setCell (p := ⟨wr.heap.size, 4, none⟩) (by show w2.heap.size ≤ wr.heap.size; omega) _) (Nat.le_refl _) _
          · exact ((HKl.out.setCell ⟨wr.heap.size, 4, none⟩ _ (fun b hb => hb.2)).setRow w2.heap.size _ (fun b hb => by omega)).mono (fun b hb _ => hb.1)
          · rw [size_mk, sizes_cons, sizes_nil, HSZ.out]; omega
      | false =>
        go_wp2_with (first
          | ((with_reducible refine at_st 25 (.tmp 11) ?_); refine wpList_store_new rfl 25 (.tmp 11) (.tmp 32) rfl (nodeCells (.mk kk e0 k 0 []) (.slice none 0 0)) (old := zeroNodeCells) rfl rfl Tryd.sizeNode rfl (nodeCells_one _ _ rfl) ?_; refine at_world (wr.alloc (.cells (nodeCells (.mk kk e0 k 0 []) (.slice none 0 0)).toArray 25)) ?_; generalize hwy : wr.alloc (.cells (nodeCells (.mk kk e0 k 0 []) (.slice none 0 0)).toArray 25) = wy at HY HXy HKy HBy hly ⊢; clear hwy; have hcx4 : wy.cell? ⟨w2.heap.size, 4, none⟩ = some v := HXy.out.cell 4)
          | ((with_reducible refine at_ld 25 (.tmp 11) ?_); refine wpList_load_node rfl 25 (.tmp 11) rfl wr.heap.size (.mk kk e0 k 0 []) (.slice none 0 0) rfl HY.out Tryd.underlying25 rfl Tryd.sizeNode ?_)
          | (at_builtin; refine wpList_append_trees rfl (.tmp 41) (.tmp 43) rfl I (ts := [.mk kk e0 k 0 []]) (S := fun b => w2.heap.size < b) rfl ((HKy.out.mono (fun b hb _ => hb.1)).alloc _) (us := [.slice none 0 0]) (TsAt.single ((KAt.nil _ _ _).tat _ _ _ _)) (by simp; omega) rfl rfl (by simp) (lit1_at wy _ (.mk kk e0 k 0 []) (.slice none 0 0)) (by have := kids_len t; have := HSZ.out; simp; omega) ?_))
        intro v4 w4 hK4 hg4 _
        have hrow : ∀ g, v.ownBlock = some g → w2.heap.size < g := fun g hg => by obtain ⟨_, _, hS, _⟩ := HK.out; exact hS g hg
        have HX4 := Lib.hid ((HXy.out.alloc (.cells (nodeCells (.mk kk e0 k 0 []) (.slice none 0 0)).toArray 25)).grown hg4 (fun e => by have := hrow _ e.symm; omega))
        have HB4 := Lib.hid ((HBy.out.alloc HBy.out.size (.cells (nodeCells (.mk kk e0 k 0 []) (.slice none 0 0)).toArray 25)).grown hg4 (by simp; have := HBy.out.size; omega) (fun g hg => by have := hrow g hg; omega))
        have HK4 := Lib.hid hK4
        obtain ⟨sa4, sn4, sc4, rfl⟩ := hK4.slice
        have hcell : w4.cell? ⟨w2.heap.size, 4, none⟩ = some v := HX4.out.cell 4
        have hfroz := HX4.out.frozen 4
        clear hg4 hK4 hrow hcx4
        go_wp2
        go_roundg (gk - 1)
        case measure => omega
        case rel =>
          refine ⟨k + 1, .mk t.kind t.text t.num t.place (t.kids ++ [.mk kk e0 k 0 []]), .slice sa4 sn4 sc4, by omega, by omega, by go_num, HB4.out.setCell (by show w2.heap.size ≤ w2.heap.size; omega) _, HX4.out.setSame 4 _, HK4.out.setCell _ _ (fun b hb => by show b ≠ w2.heap.size; omega), ?_⟩
          have e1 : t.size = 1 + sizes t.kids := by cases t; rw [size_mk]; rfl
          rw [size_mk, sizes_append, sizes_cons, sizes_nil, size_mk, sizes_nil]
          have := HSZ.out
          omega
    · have hke : k = 50 := by omega
      have HNz := Lib.hid (HN2.out.below HB.out)
      have HKNz := Lib.hid (HKN2.out.below HB.out)
      have HXz := HX
      have HKXz := HK
      have HBz := Lib.hid (HB2.out.trans (HB.out.mono HB2.out.size))
      have HTz := Lib.hid (HT.out.below HBz.out HT.out.size)
      have hzt : t.size ≤ 100 := by have := HSZ.out; omega
      have heq : ((t.size : Int) == 51) = true := by rw [HSZ.out, hke]; simp
      have hw1 : IntKind.i64.wrap (51) = 51 := IntWalk.i64_in _ (by omega)
      clear hke
      go_wp2_with fail
      refine wp_region_held_drew (S := fun W => Blk W (w1.heap.size) (nodeCells tn kn) 25 ∧ Blk W (w2.heap.size) (nodeCells t v) 25) (by kernel_rfl) (⟨HNz.out.drew, HXz.out.drew⟩) (fun hS => ?_)
      refine AnyH.one (i := 0) (o := ⟨some 47, _, _, _, _, _⟩) (by kernel_rfl) rfl (by rfl) (fun K hK => ?_)
      go_simp
      refine (wakes_any _ (show Tabs (wr).drew from HTz.out.below (Below.refl _ _).drew HTz.out.size)).mono ?_
      rintro e wa ⟨rfl, hba⟩
      have HNa := Lib.hid (HNz.out.drew.below hba)
      have HXa := Lib.hid (HXz.out.drew.below hba)
      have HKNa := Lib.hid (HKNz.out.drew.below hba)
      have HKXa := Lib.hid (HKXz.out.drew.below hba)
      have HBa := Lib.hid (HBz.out.drew.trans (hba.mono HBz.out.drew.size))
      clear hba hS
      have hS : Blk wa (w1.heap.size) (nodeCells tn kn) 25 ∧ Blk wa (w2.heap.size) (nodeCells t v) 25 := ⟨HNa.out, HXa.out⟩
      refine hK.out _ _ hS ?_
      clear hK K
      try simp only [Act.put, List.setIfInBounds_toArray, List.set_cons_zero, List.set_cons_succ]
      refine wpAnyH_take (i := 1) (oi := ⟨some 48, _, _, _, _, _⟩) (v := .bool true) rfl (by kernel_rfl) (by kernel_rfl) (by kernel_rfl) (fun _ _ _ h => h) (Or.inl ⟨by rfl, fun W _ => by go_simp⟩) hS ?_
      try simp only [Act.put, List.setIfInBounds_toArray, List.set_cons_zero, List.set_cons_succ]
      refine wpAnyH_take (i := 2) (oi := ⟨some 49, _, _, _, _, _⟩) (v := .agg #[.int .i64 (tn).kind, .string (tn).text, .int .i64 (tn).num, .int .i64 (tn).place, kn]) rfl (by kernel_rfl) (by kernel_rfl) (by kernel_rfl) (fun _ _ _ h => h) (yieldsIf_load_mid (cs := nodeCells (tn) (kn)) (by rfl) 25 (.tmp 5) rfl (w1.heap.size) (0) (by go_simp) _ (fun W hW j v hj => by rw [Nat.zero_add, (hW.1).cell j]; exact hj) Tryd.underlying25 rfl Tryd.sizeNode) hS ?_
      try simp only [Act.put, List.setIfInBounds_toArray, List.set_cons_zero, List.set_cons_succ]
      refine wpAnyH_take (i := 4) (oi := ⟨some 51, _, _, _, _, _⟩) (v := .agg #[.int .i64 (tn).kind, .string (tn).text, .int .i64 (tn).num, .int .i64 (tn).place, kn]) rfl (by kernel_rfl) (by kernel_rfl) (by kernel_rfl) (fun _ _ _ h => h) (yieldsIf_load_mid (cs := nodeCells (tn) (kn)) (by rfl) 25 (.tmp 5) rfl (w1.heap.size) (0) (by go_simp) _ (fun W hW j v hj => by rw [Nat.zero_add, (hW.1).cell j]; exact hj) Tryd.underlying25 rfl Tryd.sizeNode) hS ?_
      try simp only [Act.put, List.setIfInBounds_toArray, List.set_cons_zero, List.set_cons_succ]
      refine AnyH.one (i := 3) (o := ⟨some 50, _, _, _, _, _⟩) (by kernel_rfl) rfl (by rfl) (fun K hK => ?_)
      go_simp
      refine (size_any _ tn (Nat.le_refl _) HKNa.out (by omega)).mono ?_
      rintro e wb ⟨rfl, hbb⟩
      have HNb := Lib.hid (HNa.out.below hbb)
      have HXb := Lib.hid (HXa.out.below hbb)
      have HKNb := Lib.hid (HKNa.out.below hbb)
      have HKXb := Lib.hid (HKXa.out.below hbb)
      have HBb := Lib.hid (HBa.out.trans (hbb.mono HBa.out.size))
      clear hbb hS
      have hS : Blk wb (w1.heap.size) (nodeCells tn kn) 25 ∧ Blk wb (w2.heap.size) (nodeCells t v) 25 := ⟨HNb.out, HXb.out⟩
      refine hK.out _ _ hS ?_
      clear hK K
      try simp only [Act.put, List.setIfInBounds_toArray, List.set_cons_zero, List.set_cons_succ]
      refine AnyH.one (i := 5) (o := ⟨some 52, _, _, _, _, _⟩) (by kernel_rfl) rfl (by rfl) (fun K hK => ?_)
      go_simp
      refine (refTree_any _ tn (Nat.le_refl _) HKNb.out (by omega)).mono ?_
      rintro e wc ⟨kc, rfl, hkc, hbc⟩
      have HRc := Lib.hid hkc
      have HNc := Lib.hid (HNb.out.below hbc)
      have HXc := Lib.hid (HXb.out.below hbc)
      have HKNc := Lib.hid (HKNb.out.below hbc)
      have HKXc := Lib.hid (HKXb.out.below hbc)
      have HBc := Lib.hid (HBb.out.trans (hbc.mono HBb.out.size))
      clear hbc hkc hS
      unfold NodeV
      have hS : Blk wc (w1.heap.size) (nodeCells tn kn) 25 ∧ Blk wc (w2.heap.size) (nodeCells t v) 25 := ⟨HNc.out, HXc.out⟩
      refine hK.out _ _ hS ?_
      clear hK K
      try simp only [Act.put, List.setIfInBounds_toArray, List.set_cons_zero, List.set_cons_succ]
      refine AnyH.one (i := 6) (o := ⟨some 53, _, _, _, _, _⟩) (by kernel_rfl) rfl (by rfl) (fun K hK => ?_)
      go_simp
      refine (refSize_any _ tn (Nat.le_refl _) HRc.out (by omega)).mono ?_
      rintro e wd ⟨rfl, hbd⟩
      have HNd := Lib.hid (HNc.out.below hbd)
      have HXd := Lib.hid (HXc.out.below hbd)
      have HKNd := Lib.hid (HKNc.out.below hbd)
      have HKXd := Lib.hid (HKXc.out.below hbd)
      have HBd := Lib.hid (HBc.out.trans (hbd.mono HBc.out.size))
      clear hbd hS
      have hS : Blk wd (w1.heap.size) (nodeCells tn kn) 25 ∧ Blk wd (w2.heap.size) (nodeCells t v) 25 := ⟨HNd.out, HXd.out⟩
      refine hK.out _ _ hS ?_
      clear hK K
      try simp only [Act.put, List.setIfInBounds_toArray, List.set_cons_zero, List.set_cons_succ]
      refine wpAnyH_take (i := 7) (oi := ⟨some 54, _, _, _, _, _⟩) (v := .bool true) rfl (by kernel_rfl) (by kernel_rfl) (by kernel_rfl) (fun _ _ _ h => h) (Or.inl ⟨by rfl, fun W _ => by go_simp⟩) hS ?_
      try simp only [Act.put, List.setIfInBounds_toArray, List.set_cons_zero, List.set_cons_succ]
      refine wpAnyH_take (i := 8) (oi := ⟨some 55, _, _, _, _, _⟩) (v := .bool true) rfl (by kernel_rfl) (by kernel_rfl) (by kernel_rfl) (fun _ _ _ h => h) (Or.inl ⟨by rfl, fun W _ => by go_simp⟩) hS ?_
      try simp only [Act.put, List.setIfInBounds_toArray, List.set_cons_zero, List.set_cons_succ]
      refine wpAnyH_take (i := 9) (oi := ⟨some 56, _, _, _, _, _⟩) (v := .bool true) rfl (by kernel_rfl) (by kernel_rfl) (by kernel_rfl) (fun _ _ _ h => h) (Or.inl ⟨by rfl, fun W _ => by go_simp⟩) hS ?_
      try simp only [Act.put, List.setIfInBounds_toArray, List.set_cons_zero, List.set_cons_succ]
      refine wpAnyH_take (i := 10) (oi := ⟨some 57, _, _, _, _, _⟩) (v := .agg #[.int .i64 (t).kind, .string (t).text, .int .i64 (t).num, .int .i64 (t).place, v]) rfl (by kernel_rfl) (by kernel_rfl) (by kernel_rfl) (fun _ _ _ h => h) (yieldsIf_load_mid (cs := nodeCells (t) (v)) (by rfl) 25 (.tmp 8) rfl (w2.heap.size) (0) (by go_simp) _ (fun W hW j v hj => by rw [Nat.zero_add, (hW.2).cell j]; exact hj) Tryd.underlying25 rfl Tryd.sizeNode) hS ?_
      try simp only [Act.put, List.setIfInBounds_toArray, List.set_cons_zero, List.set_cons_succ]
      refine wpAnyH_take (i := 12) (oi := ⟨some 59, _, _, _, _, _⟩) (v := .agg #[.int .i64 (t).kind, .string (t).text, .int .i64 (t).num, .int .i64 (t).place, v]) rfl (by kernel_rfl) (by kernel_rfl) (by kernel_rfl) (fun _ _ _ h => h) (yieldsIf_load_mid (cs := nodeCells (t) (v)) (by rfl) 25 (.tmp 8) rfl (w2.heap.size) (0) (by go_simp) _ (fun W hW j v hj => by rw [Nat.zero_add, (hW.2).cell j]; exact hj) Tryd.underlying25 rfl Tryd.sizeNode) hS ?_
      try simp only [Act.put, List.setIfInBounds_toArray, List.set_cons_zero, List.set_cons_succ]
      refine AnyH.one (i := 11) (o := ⟨some 58, _, _, _, _, _⟩) (by kernel_rfl) rfl (by rfl) (fun K hK => ?_)
      go_simp
      refine (size_any _ t (Nat.le_refl _) HKXd.out (by omega)).mono ?_
      rintro e wf ⟨rfl, hbf⟩
      have HNf := Lib.hid (HNd.out.below hbf)
      have HXf := Lib.hid (HXd.out.below hbf)
      have HKNf := Lib.hid (HKNd.out.below hbf)
      have HKXf := Lib.hid (HKXd.out.below hbf)
      have HBf := Lib.hid (HBd.out.trans (hbf.mono HBd.out.size))
      clear hbf hS
      have hS : Blk wf (w1.heap.size) (nodeCells tn kn) 25 ∧ Blk wf (w2.heap.size) (nodeCells t v) 25 := ⟨HNf.out, HXf.out⟩
      refine hK.out _ _ hS ?_
      clear hK K
      try simp only [Act.put, List.setIfInBounds_toArray, List.set_cons_zero, List.set_cons_succ]
      refine AnyH.one (i := 13) (o := ⟨some 60, _, _, _, _, _⟩) (by kernel_rfl) rfl (by rfl) (fun K hK => ?_)
      go_simp
      refine (refTree_any _ t (Nat.le_refl _) HKXf.out (by omega)).mono ?_
      rintro e wg ⟨kg, rfl, hkg, hbg⟩
      have HRg := Lib.hid hkg
      have HNg := Lib.hid (HNf.out.below hbg)
      have HXg := Lib.hid (HXf.out.below hbg)
      have HKNg := Lib.hid (HKNf.out.below hbg)
      have HKXg := Lib.hid (HKXf.out.below hbg)
      have HBg := Lib.hid (HBf.out.trans (hbg.mono HBf.out.size))
      clear hbg hkg hS
      unfold NodeV
      have hS : Blk wg (w1.heap.size) (nodeCells tn kn) 25 ∧ Blk wg (w2.heap.size) (nodeCells t v) 25 := ⟨HNg.out, HXg.out⟩
      refine hK.out _ _ hS ?_
      clear hK K
      try simp only [Act.put, List.setIfInBounds_toArray, List.set_cons_zero, List.set_cons_succ]
      refine AnyH.one (i := 14) (o := ⟨some 61, _, _, _, _, _⟩) (by kernel_rfl) rfl (by rfl) (fun K hK => ?_)
      go_simp
      refine (refSize_any _ t (Nat.le_refl _) HRg.out (by omega)).mono ?_
      rintro e wh ⟨rfl, hbh⟩
      have HNh := Lib.hid (HNg.out.below hbh)
      have HXh := Lib.hid (HXg.out.below hbh)
      have HKNh := Lib.hid (HKNg.out.below hbh)
      have HKXh := Lib.hid (HKXg.out.below hbh)
      have HBh := Lib.hid (HBg.out.trans (hbh.mono HBg.out.size))
      clear hbh hS
      have hS : Blk wh (w1.heap.size) (nodeCells tn kn) 25 ∧ Blk wh (w2.heap.size) (nodeCells t v) 25 := ⟨HNh.out, HXh.out⟩
      refine hK.out _ _ hS ?_
      clear hK K
      try simp only [Act.put, List.setIfInBounds_toArray, List.set_cons_zero, List.set_cons_succ]
      refine wpAnyH_take (i := 15) (oi := ⟨some 62, _, _, _, _, _⟩) (v := .bool true) rfl (by kernel_rfl) (by kernel_rfl) (by kernel_rfl) (fun _ _ _ h => h) (Or.inl ⟨by rfl, fun W _ => by go_simp⟩) hS ?_
      try simp only [Act.put, List.setIfInBounds_toArray, List.set_cons_zero, List.set_cons_succ]
      refine wpAnyH_take (i := 16) (oi := ⟨some 63, _, _, _, _, _⟩) (v := .bool true) rfl (by kernel_rfl) (by kernel_rfl) (by kernel_rfl) (fun _ _ _ h => h) (Or.inl ⟨by rfl, fun W _ => by go_simp⟩) hS ?_
      try simp only [Act.put, List.setIfInBounds_toArray, List.set_cons_zero, List.set_cons_succ]
      refine wpAnyH_take (i := 17) (oi := ⟨some 64, _, _, _, _, _⟩) (v := .bool true) rfl (by kernel_rfl) (by kernel_rfl) (by kernel_rfl) (fun _ _ _ h => h) (Or.inl ⟨by rfl, fun W _ => by go_simp⟩) hS ?_
      try simp only [Act.put, List.setIfInBounds_toArray, List.set_cons_zero, List.set_cons_succ]
      refine wpAnyH_take (i := 18) (oi := ⟨some 65, _, _, _, _, _⟩) (v := .agg #[.int .i64 (t).kind, .string (t).text, .int .i64 (t).num, .int .i64 (t).place, v]) rfl (by kernel_rfl) (by kernel_rfl) (by kernel_rfl) (fun _ _ _ h => h) (yieldsIf_load_mid (cs := nodeCells (t) (v)) (by rfl) 25 (.tmp 8) rfl (w2.heap.size) (0) (by go_simp) _ (fun W hW j v hj => by rw [Nat.zero_add, (hW.2).cell j]; exact hj) Tryd.underlying25 rfl Tryd.sizeNode) hS ?_
      try simp only [Act.put, List.setIfInBounds_toArray, List.set_cons_zero, List.set_cons_succ]
      refine wpAnyH_take (i := 20) (oi := ⟨some 67, _, _, _, _, _⟩) (v := .slice (some ⟨b, off, none⟩) zs.length cap) rfl (by kernel_rfl) (by kernel_rfl) (by kernel_rfl) (fun _ _ _ h => h) (Or.inl ⟨by rfl, fun W _ => by go_simp⟩) hS ?_
      try simp only [Act.put, List.setIfInBounds_toArray, List.set_cons_zero, List.set_cons_succ]
      refine wpAnyH_take (i := 21) (oi := ⟨some 68, _, _, _, _, _⟩) (v := .int .i64 ((zs.length : Int))) rfl (by kernel_rfl) (by kernel_rfl) (by kernel_rfl) (fun _ _ _ h => h) (Or.inl ⟨by rfl, fun W _ => by go_simp⟩) hS ?_
      try simp only [Act.put, List.setIfInBounds_toArray, List.set_cons_zero, List.set_cons_succ]
      refine wpAnyH_take (i := 22) (oi := ⟨some 69, _, _, _, _, _⟩) (v := .int .i64 (50)) rfl (by kernel_rfl) (by kernel_rfl) (by kernel_rfl) (fun _ _ _ h => h) (Or.inl ⟨by rfl, fun W _ => by go_simp⟩) hS ?_
      try simp only [Act.put, List.setIfInBounds_toArray, List.set_cons_zero, List.set_cons_succ]
      refine wpAnyH_take (i := 23) (oi := ⟨some 70, _, _, _, _, _⟩) (v := .int .i64 (51)) rfl (by kernel_rfl) (by kernel_rfl) (by kernel_rfl) (fun _ _ _ h => h) (Or.inl ⟨by rfl, fun W _ => by go_simp⟩) hS ?_
      try simp only [Act.put, List.setIfInBounds_toArray, List.set_cons_zero, List.set_cons_succ]
      refine AnyH.one (i := 19) (o := ⟨some 66, _, _, _, _, _⟩) (by kernel_rfl) rfl (by rfl) (fun K hK => ?_)
      go_simp
      refine (size_any _ t (Nat.le_refl _) HKXh.out (by omega)).mono ?_
      rintro e wi ⟨rfl, hbi⟩
      have HNi := Lib.hid (HNh.out.below hbi)
      have HXi := Lib.hid (HXh.out.below hbi)
      have HKNi := Lib.hid (HKNh.out.below hbi)
      have HKXi := Lib.hid (HKXh.out.below hbi)
      have HBi := Lib.hid (HBh.out.trans (hbi.mono HBh.out.size))
      clear hbi hS
      have hS : Blk wi (w1.heap.size) (nodeCells tn kn) 25 ∧ Blk wi (w2.heap.size) (nodeCells t v) 25 := ⟨HNi.out, HXi.out⟩
      refine hK.out _ _ hS ?_
      clear hK K
      try simp only [Act.put, List.setIfInBounds_toArray, List.set_cons_zero, List.set_cons_succ]
      refine wpAnyH_take (i := 24) (oi := ⟨some 71, _, _, _, _, _⟩) (v := .bool true) rfl (by kernel_rfl) (by kernel_rfl) (by kernel_rfl) (fun _ _ _ h => h) (Or.inl ⟨by rfl, fun W _ => by go_simp⟩) hS ?_
      try simp only [Act.put, List.setIfInBounds_toArray, List.set_cons_zero, List.set_cons_succ]
      refine wpAnyH_take (i := 25) (oi := ⟨some 72, _, _, _, _, _⟩) (v := .bool true) rfl (by kernel_rfl) (by kernel_rfl) (by kernel_rfl) (fun _ _ _ h => h) (Or.inl ⟨by rfl, fun W _ => by go_simp⟩) hS ?_
      try simp only [Act.put, List.setIfInBounds_toArray, List.set_cons_zero, List.set_cons_succ]
      refine wpAnyH_take (i := 26) (oi := ⟨some 4, _, _, _, _, _⟩) (v := .bool true) rfl (by kernel_rfl) (by kernel_rfl) (by kernel_rfl) (fun _ _ _ h => h) (Or.inl ⟨by rfl, fun W _ => by go_simp⟩) hS ?_
      try simp only [Act.put, List.setIfInBounds_toArray, List.set_cons_zero, List.set_cons_succ]
      refine wpAnyH_done (by kernel_rfl) ?_ _
      clear hS
      go_wp2
      go_ret
      exact ⟨rfl, HBi.out⟩

theorem syntaxSizes_walk (a : ByteArray) (v : Value) (zs : List Int) (w : World) (hsa : a.size ≤ maxLen) (hz : IntsAt w v zs) (ht : Tabs w) :
    Calls Tryd.prog 4 #[.string a, v] w fun e w' => e = .returned (.bool true) ∧ Below w.heap.size w w' := by
  rcases hz with ⟨sa, cap, rfl, _, _, _⟩ | ⟨b, off, cap, rfl, hpos, hbw, hcap, hcm, hcell⟩
  · exact syntaxSizes_none a sa cap w hsa ht
  · rcases Nat.lt_or_ge 50 zs.length with h | h
    · exact syntaxSizes_many a b off cap zs w hsa hpos hbw hcap hcm hcell h ht
    · exact syntaxSizes_few a b off cap zs w hsa hpos hbw hcap hcm hcell h ht

theorem syntaxSizes_reads (os : Os) {H : Type} (enc : TypeId × Value → H) : ∃ places, DataW.whole enc Tryd.prog ((laidWorld os).forCall (fun _ _ => 0) ⟨#[], #[.string ⟨#[]⟩, .slice none 0 0], []⟩).memory Tryd.f4.params.toList Rows.syntaxSizesSpec.vars false #[Value.string ⟨#[]⟩, Value.slice none 0 0].toList 8 = some ([.lit (.string []), .nil], [], places) :=
  ⟨[], by kernel_rfl⟩

set_option maxRecDepth 100000 in
theorem syntaxSizes_lifted (os : Os) (started : os.Started) (H : Type) (enc : TypeId × Value → H) (F : Stop.Interp) :
    ReturnsInHanded {} Tryd.checked os 4 .any ((OpenSpec.ofChange Rows.syntaxSizesSpec).preRow enc Tryd.prog Tryd.f4 Rows.syntaxSizesRow.domain false Rows.syntaxSizesRow.laid) (((OpenSpec.ofChange Rows.syntaxSizesSpec).at F).post enc Tryd.prog Tryd.f4 false true false false) := by
  obtain ⟨places, hx⟩ := syntaxSizes_reads os enc
  refine returnsInHanded_of_row (C := Tryd.checked) (s := OpenSpec.ofChange Rows.syntaxSizesSpec) own started (by kernel_rfl) Tryd.func4
    (witness_row_at (enc := enc) (C := Tryd.checked) false (laidWorld os) #[.string ⟨#[]⟩, .slice none 0 0] rfl (by kernel_rfl) (by kernel_rfl) (by kernel_rfl)
      (OpenSpec.preRow_of_cond 8 hx (by kernel_rfl) (fun k hk => by cases hk) (by kernel_rfl) (laid_met_textInts os))) ?_
  intro W base args ds gs before hval hW _ _ _ hL _ _
  exact textInts_contract Tryd.params4 (by kernel_rfl) rfl (fun _ _ => rfl) syntaxSizes_walk W base args ds gs before hval hW hL

theorem syntaxSizes_said : Rows.SyntaxSizesSaid :=
  OpenClaim.holds_of_cond 4 Tryd.f4 rfl rfl rfl rfl rfl rfl rfl ⟨rfl, rfl, rfl, rfl, rfl⟩ rfl rfl rfl rfl rfl (by kernel_rfl) Tryd.func4 (by kernel_rfl)
    (of_decide_eq_true (by kernel_rfl)) (by unfold Func.isWrapper; first | (rw [if_pos (by decide +kernel)]; kernel_rfl) | (rw [if_neg (by decide +kernel)]; exact ⟨rfl, rfl⟩))
    (fun os started H enc _ F => by rw [OpenClaim.pre_eq_preRow]; exact syntaxSizes_lifted os started H enc F)

theorem syntaxSizes_plain (f : FuncId) (fn : Func) (hf : Tryd.pinned.checked.prog.funcNamed "lychgate/lychgatelaw02.SyntaxSizes" = some f) (hfn : Tryd.pinned.checked.prog.funcs[f]? = some fn) :
    true = Tryd.pinned.checked.prog.looks [] ∧ ∀ (j : Nat) t, fn.params[j]? = some t → Tryd.pinned.checked.prog.wantsStandIn t = false := by
  obtain rfl : f = 4 := Option.some.inj ((show Tryd.prog.funcNamed "lychgate/lychgatelaw02.SyntaxSizes" = some 4 by kernel_rfl).symm.trans hf) |>.symm
  obtain rfl : fn = Tryd.f4 := (Option.some.inj (Tryd.func4.symm.trans hfn)).symm
  refine ⟨by kernel_rfl, fun j t ht => ?_⟩
  rw [Tryd.params4] at ht
  have hm : t = 9 ∨ t = 38 := by simpa using Array.mem_of_getElem? ht
  rcases hm with rfl | rfl
  · exact (show Tryd.prog.wantsStandIn 9 = false by kernel_rfl)
  · exact (show Tryd.prog.wantsStandIn 38 = false by kernel_rfl)

theorem syntaxSizes_card : Rows.SyntaxSizesCardSaid :=
  Claim7.holds_tied_plain_at .later [] _ _ _ _ syntaxSizes_said (fun _ h => by cases h) (by kernel_rfl) (fun _ h => by cases h) syntaxSizes_row_tie rfl ⟨rfl, rfl⟩ (by kernel_rfl) rfl syntaxSizes_plain (by kernel_rfl)

end Go.Proofs.YtflhniiemmahmaaDoor
