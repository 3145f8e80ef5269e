/- Proved here: for every Comparison and every two numbers that lychgatelaw11.ShapeMeans is called with, in every memory in which lex's tables stand as the program's text lays them, the call returns true and the arguments read as before. Conditions: the package-level tables lex.keys, lex.blanks and lex.pairs hold what their initialisers lay (the card ties them to the program's text). -/
import Derived.Test.YtdkdidgeaalcgaaDoorWakesS
import Derived.Test.YtdkdidgeaalcgaaDoorOpenC
import Derived.MapKept
namespace Go.Proofs.YtdkdidgeaalcgaaDoor
open Go.ChangeShapes Go.WideShapes Go.ChangeAt Go.RowKit

theorem Tryd.sizeLeq2 : (Tryd.prog.info? 30).map (·.size) = some 3 := by kernel_rfl
def cutV (n : Int) : Int := max (-1099511627776) (min n 1099511627776)
theorem cutV_in (n : Int) : -1099511627776 ≤ cutV n ∧ cutV n ≤ 1099511627776 := by unfold cutV; omega
set_option maxHeartbeats 1000000 in
theorem cut_any (n : Int) (w : World) : Calls Tryd.prog 11 #[.int .i64 n] w fun e w' => e = .returned (.int .i64 (cutV n)) ∧ w' = w := by
  go_enter Tryd.func11, Tryd.ntmps11
  go_wp2_with fail
  all_goals go_ret
  all_goals exact ⟨ret_i (by unfold cutV; omega), rfl⟩

/- The map of two numbers. -/
def mE (k v : Int) (b : Nat) : MapEntry := ⟨.int .i64 k, .int .i64 v, b⟩
def mEs (x y : Int) : Array MapEntry := #[mE 1 x 0, mE 2 y 1]
theorem put_int {w : World} {r : Nat} {es : Array MapEntry} {clock : Nat} {k v : Int} (hb : w.heap[r]? = some (.map es clock)) (hf : Instr.findNow (.int .i64) (.int .i64 k) es.toList 0 = some none) :
    (Instr.mapUpdate 34 (.map (some r)) (.int .i64 k) (.int .i64 v)).run Tryd.prog w = .ok () (ChangeMaps.setBlock w r (.map (es.push ⟨.int .i64 k, .int .i64 v, clock⟩) (clock + 1))) := by
  have h1 := MapKept.run_checkKey (P := Tryd.prog) (w := w) (k := .int .i64 k) Tryd.underlying3 (by simp [MapKept.IsKey]) false 9999
  have h2 := MapKept.run_findKey (P := Tryd.prog) (w := w) (kt := 3) (k := .int .i64 k) (l := es.toList) Tryd.underlying3 hf
  have h3 := MapKept.run_getObj_map (P := Tryd.prog) (w := w) hb
  have h4 : ∀ o', (setObj r o').run Tryd.prog w = .ok () (ChangeMaps.setBlock w r o') := fun o' => by simp [setObj, Sem.run, hb, ChangeMaps.setBlock]
  simp [Instr.mapUpdate, run_underlying Tryd.underlying34, h1, h2, h3, h4]
theorem look_int {w : World} {r : Nat} {x y : Int} (hb : w.heap[r]? = some (.map (mEs x y) 2)) {k v : Int} (hk : (k = 1 ∧ v = x) ∨ (k = 2 ∧ v = y)) :
    (Instr.lookup 34 (.map (some r)) (.int .i64 k) false).run Tryd.prog w = .ok (.int .i64 v) w := by
  have h1 : ∀ e, (Instr.checkKey e (9999 + 1) 3 (.int .i64 k)).run Tryd.prog w = .ok () w := fun e => MapKept.run_checkKey (P := Tryd.prog) (w := w) (k := .int .i64 k) Tryd.underlying3 (by simp [MapKept.IsKey]) e 9999
  have h3 := MapKept.run_getObj_map (P := Tryd.prog) (w := w) hb
  rcases hk with ⟨rfl, rfl⟩ | ⟨rfl, rfl⟩
  · have h2 := MapKept.run_findKey (P := Tryd.prog) (w := w) (kt := 3) (k := .int .i64 1) (l := (mEs v y).toList) (a := some (0, .int .i64 v)) Tryd.underlying3 rfl
    simp [Instr.lookup, run_underlying Tryd.underlying34, h1, h2, h3]
  · have h2 := MapKept.run_findKey (P := Tryd.prog) (w := w) (kt := 3) (k := .int .i64 2) (l := (mEs x v).toList) (a := some (1, .int .i64 v)) Tryd.underlying3 rfl
    simp [Instr.lookup, run_underlying Tryd.underlying34, h1, h2, h3]
theorem put_one (w : World) (x : Int) : (Instr.mapUpdate 34 (.map (some w.heap.size)) (.int .i64 1) (.int .i64 x)).run Tryd.prog (w.alloc (.map #[] 0)) = .ok () (w.alloc (.map #[mE 1 x 0] 1)) := by
  have := put_int (w := w.alloc (.map #[] 0)) (r := w.heap.size) (es := #[]) (clock := 0) (k := 1) (v := x) (heap_alloc_new w _) rfl
  rw [setBlock_new] at this
  exact this
theorem put_two (w : World) (x y : Int) : (Instr.mapUpdate 34 (.map (some w.heap.size)) (.int .i64 2) (.int .i64 y)).run Tryd.prog (w.alloc (.map #[mE 1 x 0] 1)) = .ok () (w.alloc (.map (mEs x y) 2)) := by
  have := put_int (w := w.alloc (.map #[mE 1 x 0] 1)) (r := w.heap.size) (es := #[mE 1 x 0]) (clock := 1) (k := 2) (v := y) (heap_alloc_new w _) rfl
  rw [setBlock_new] at this
  exact this

/- Does a fact hold of the two numbers? -/
def vl (x y n : Int) : Int := if n = 1 then x else y
def okF (x y : Int) (f : Fa) : Bool := decide (vl x y f.x - vl x y f.y ≤ f.c)
theorem factsL_vars (c : ByteArray) (k l : Int) : ∀ f ∈ factsL c 1 2 k l, (f.x = 1 ∨ f.x = 2) ∧ (f.y = 1 ∨ f.y = 2) := by
  unfold factsL
  cases c.toList == [60] <;> cases c.toList == [60, 61] <;> cases c.toList == [61, 61] <;> simp

set_option maxRecDepth 100000 in
set_option maxHeartbeats 2000000 in
theorem shapeMeans_walk (s : ByteArray) (a b k l x y : Int) (w : World) (ht : Tabs w) :
    Calls Tryd.prog 4 #[CmpV s a b k l, .int .i64 x, .int .i64 y] w fun e w' => e = .returned (.bool true) ∧ Below w.heap.size w w' := by
  have HT := Lib.hid ht
  obtain ⟨W0, hW0⟩ : ∃ W, w.alloc (.cells [.string s, .int .i64 a, .int .i64 b, .int .i64 k, .int .i64 l].toArray 23) = W := ⟨_, rfl⟩
  have HB0 := Lib.hid (show Below w.heap.size w W0 from hW0 ▸ (Below.refl _ _).alloc (Nat.le_refl _) _)
  have HC0 := Lib.hid (show Blk W0 w.heap.size [.string s, .int .i64 a, .int .i64 b, .int .i64 k, .int .i64 l] 23 from hW0 ▸ Blk.new w _ _)
  have HWK := Lib.hid (wakes11_any W0 (HT.out.below HB0.out HT.out.size))
  unfold CmpV
  clear ht
  go_enter Tryd.func4, Tryd.ntmps4
  go_wp2_with fail
  try rw [hW0]
  clear hW0
  refine HWK.out.mono ?_
  rintro e w1 ⟨rfl, hb⟩
  have HB1 := Lib.hid (HB0.out.trans (hb.mono HB0.out.size))
  have HC1 := Lib.hid (HC0.out.stays hb)
  clear hb HWK
  go_upto_region 4 with fail
  refine wp_region_held_drew (S := fun W => Blk W w.heap.size [.string s, .int .i64 a, .int .i64 b, .int .i64 k, .int .i64 l] 23) (by kernel_rfl) HC1.out.drew (fun hS => ?_)
  have HB2 := Lib.hid HB1.out.drew
  generalize w1.drew = w2 at *
  refine wpAnyH_take (i := 0) (oi := ⟨some 16, _, _, _, _, _⟩) (v := .func (.func 11) #[] #[]) rfl (by kernel_rfl) (by kernel_rfl) (by kernel_rfl) (fun _ _ _ h => h) (Or.inl ⟨by rfl, fun W _ => by go_simp⟩) hS ?_
  try simp only [Act.put, List.setIfInBounds_toArray, List.set_cons_zero, List.set_cons_succ]
  refine wpAnyH_take (i := 1) (oi := ⟨some 17, _, _, _, _, _⟩) (v := .int .i64 x) rfl (by kernel_rfl) (by kernel_rfl) (by kernel_rfl) (fun _ _ _ h => h) (Or.inl ⟨by rfl, fun W _ => by go_simp⟩) hS ?_
  try simp only [Act.put, List.setIfInBounds_toArray, List.set_cons_zero, List.set_cons_succ]
  refine wpAnyH_take (i := 3) (oi := ⟨some 19, _, _, _, _, _⟩) (v := .func (.func 11) #[] #[]) rfl (by kernel_rfl) (by kernel_rfl) (by kernel_rfl) (fun _ _ _ h => h) (Or.inl ⟨by rfl, fun W _ => by go_simp⟩) hS ?_
  try simp only [Act.put, List.setIfInBounds_toArray, List.set_cons_zero, List.set_cons_succ]
  refine wpAnyH_take (i := 4) (oi := ⟨some 20, _, _, _, _, _⟩) (v := .int .i64 y) rfl (by kernel_rfl) (by kernel_rfl) (by kernel_rfl) (fun _ _ _ h => h) (Or.inl ⟨by rfl, fun W _ => by go_simp⟩) hS ?_
  try simp only [Act.put, List.setIfInBounds_toArray, List.set_cons_zero, List.set_cons_succ]
  refine wpAnyH_take (i := 6) (oi := ⟨some 22, _, _, _, _, _⟩) (v := .func (.func 11) #[] #[]) rfl (by kernel_rfl) (by kernel_rfl) (by kernel_rfl) (fun _ _ _ h => h) (Or.inl ⟨by rfl, fun W _ => by go_simp⟩) hS ?_
  try simp only [Act.put, List.setIfInBounds_toArray, List.set_cons_zero, List.set_cons_succ]
  refine wpAnyH_take (i := 7) (oi := ⟨some 23, _, _, _, _, _⟩) (v := .pointer (some ⟨w.heap.size, 3, none⟩)) rfl (by kernel_rfl) (by kernel_rfl) (by kernel_rfl) (fun _ _ _ h => h) (Or.inl ⟨by rfl, fun W _ => by go_simp⟩) hS ?_
  try simp only [Act.put, List.setIfInBounds_toArray, List.set_cons_zero, List.set_cons_succ]
  refine wpAnyH_take (i := 8) (oi := ⟨some 24, _, _, _, _, _⟩) (v := .int .i64 k) rfl (by kernel_rfl) (by kernel_rfl) (by kernel_rfl) (fun _ _ _ h => h) (Or.inl ⟨by rfl, fun W hW => by have hcx : W.cell? ⟨w.heap.size, 3, none⟩ = some (.int .i64 k) := (hW).cell 3; go_simp⟩) hS ?_
  try simp only [Act.put, List.setIfInBounds_toArray, List.set_cons_zero, List.set_cons_succ]
  refine wpAnyH_take (i := 10) (oi := ⟨some 26, _, _, _, _, _⟩) (v := .func (.func 11) #[] #[]) rfl (by kernel_rfl) (by kernel_rfl) (by kernel_rfl) (fun _ _ _ h => h) (Or.inl ⟨by rfl, fun W _ => by go_simp⟩) hS ?_
  try simp only [Act.put, List.setIfInBounds_toArray, List.set_cons_zero, List.set_cons_succ]
  refine wpAnyH_take (i := 11) (oi := ⟨some 27, _, _, _, _, _⟩) (v := .pointer (some ⟨w.heap.size, 4, none⟩)) rfl (by kernel_rfl) (by kernel_rfl) (by kernel_rfl) (fun _ _ _ h => h) (Or.inl ⟨by rfl, fun W _ => by go_simp⟩) hS ?_
  try simp only [Act.put, List.setIfInBounds_toArray, List.set_cons_zero, List.set_cons_succ]
  refine wpAnyH_take (i := 12) (oi := ⟨some 28, _, _, _, _, _⟩) (v := .int .i64 l) rfl (by kernel_rfl) (by kernel_rfl) (by kernel_rfl) (fun _ _ _ h => h) (Or.inl ⟨by rfl, fun W hW => by have hcx : W.cell? ⟨w.heap.size, 4, none⟩ = some (.int .i64 l) := (hW).cell 4; go_simp⟩) hS ?_
  try simp only [Act.put, List.setIfInBounds_toArray, List.set_cons_zero, List.set_cons_succ]
  refine AnyH.only (i := 2) (o := ⟨some 18, _, _, _, _, _⟩) (by kernel_rfl) rfl (by rfl) (fun K hK => ?_)
  go_simp
  refine (cut_any x _).mono ?_
  rintro e wq ⟨rfl, he⟩
  obtain rfl : w2 = wq := he.symm
  refine hK.out _ _ hS ?_
  clear hK K
  try simp only [Act.put, List.setIfInBounds_toArray, List.set_cons_zero, List.set_cons_succ]
  refine AnyH.only (i := 5) (o := ⟨some 21, _, _, _, _, _⟩) (by kernel_rfl) rfl (by rfl) (fun K hK => ?_)
  go_simp
  refine (cut_any y _).mono ?_
  rintro e wq ⟨rfl, he⟩
  obtain rfl : w2 = wq := he.symm
  refine hK.out _ _ hS ?_
  clear hK K
  try simp only [Act.put, List.setIfInBounds_toArray, List.set_cons_zero, List.set_cons_succ]
  refine AnyH.only (i := 9) (o := ⟨some 25, _, _, _, _, _⟩) (by kernel_rfl) rfl (by rfl) (fun K hK => ?_)
  go_simp
  refine (cut_any k _).mono ?_
  rintro e wq ⟨rfl, he⟩
  obtain rfl : w2 = wq := he.symm
  refine hK.out _ _ hS ?_
  clear hK K
  try simp only [Act.put, List.setIfInBounds_toArray, List.set_cons_zero, List.set_cons_succ]
  refine AnyH.only (i := 13) (o := ⟨some 29, _, _, _, _, _⟩) (by kernel_rfl) rfl (by rfl) (fun K hK => ?_)
  go_simp
  refine (cut_any l _).mono ?_
  rintro e wq ⟨rfl, he⟩
  obtain rfl : w2 = wq := he.symm
  refine hK.out _ _ hS ?_
  clear hK K
  try simp only [Act.put, List.setIfInBounds_toArray, List.set_cons_zero, List.set_cons_succ]
  refine wpAnyH_take (i := 14) (oi := ⟨some 1, _, _, _, _, _⟩) (v := .int .i64 (cutV x)) rfl (by kernel_rfl) (by kernel_rfl) (by kernel_rfl) (fun _ _ _ h => h) (Or.inl ⟨by rfl, fun W _ => by go_simp⟩) hS ?_
  try simp only [Act.put, List.setIfInBounds_toArray, List.set_cons_zero, List.set_cons_succ]
  refine wpAnyH_take (i := 15) (oi := ⟨some 2, _, _, _, _, _⟩) (v := .int .i64 (cutV y)) rfl (by kernel_rfl) (by kernel_rfl) (by kernel_rfl) (fun _ _ _ h => h) (Or.inl ⟨by rfl, fun W _ => by go_simp⟩) hS ?_
  try simp only [Act.put, List.setIfInBounds_toArray, List.set_cons_zero, List.set_cons_succ]
  refine wpAnyH_take (i := 16) (oi := ⟨some 8, _, _, _, _, _⟩) (v := .int .i64 (cutV k)) rfl (by kernel_rfl) (by kernel_rfl) (by kernel_rfl) (fun _ _ _ h => h) (Or.inl ⟨by rfl, fun W _ => by go_simp⟩) hS ?_
  try simp only [Act.put, List.setIfInBounds_toArray, List.set_cons_zero, List.set_cons_succ]
  refine wpAnyH_take (i := 17) (oi := ⟨some 9, _, _, _, _, _⟩) (v := .int .i64 (cutV l)) rfl (by kernel_rfl) (by kernel_rfl) (by kernel_rfl) (fun _ _ _ h => h) (Or.inl ⟨by rfl, fun W _ => by go_simp⟩) hS ?_
  try simp only [Act.put, List.setIfInBounds_toArray, List.set_cons_zero, List.set_cons_succ]
  refine wpAnyH_done (by kernel_rfl) ?_ _
  have n0 : w2.cell? ⟨w.heap.size, 0, none⟩ = some (.string s) := hS.cell 0
  have hx := cutV_in x
  have hy := cutV_in y
  have hk := cutV_in k
  have hl := cutV_in l
  generalize cutV x = x at *
  generalize cutV y = y at *
  generalize cutV k = k at *
  generalize cutV l = l at *
  have HFC := Lib.hid (facts_any s 1 2 k l w2)
  go_wp2_with fail
  refine HFC.out.mono ?_
  rintro e w3 ⟨v, rfl, hv, hb⟩
  have HB3 := Lib.hid (HB2.out.trans (hb.mono HB2.out.size))
  have HC3 := Lib.hid (hS.stays hb)
  have HV3 := Lib.hid hv
  have HVR := Lib.hid (factsL_vars s k l)
  have HFS := Lib.hid (show ∀ fs, factsL s 1 2 k l = fs → factsL s 1 2 k l = fs from fun _ h => h)
  clear hb hv hS n0 HFC
  obtain ⟨fs, hfs⟩ : ∃ fs, factsL s 1 2 k l = fs := ⟨_, rfl⟩
  rw [hfs] at HV3 HVR
  have HFE := Lib.hid hfs
  obtain ⟨a1, k1, rfl⟩ := RAt.slice HV3.out
  clear hfs HFS
  go_wp2_with fail
  go_loopw [10, 36] (fun h i wr => ∃ j : Nat, j ≤ fs.length ∧ i = .int .i64 j ∧ h = .bool ((fs.take j).all (okF x y)) ∧ Below w3.heap.size w3 wr) (fun _ i _ => fs.length - (intOf i).toNat)
  case atStart => exact ⟨0, by omega, rfl, by simp, Below.refl _ _⟩
  case round =>
    obtain ⟨j, hj, rfl, rfl, hbw⟩ := hrel
    by_cases hlt : j < fs.length
    · obtain ⟨f, hf⟩ : ∃ f, fs[j]? = some f := ⟨_, List.getElem?_eq_getElem hlt⟩
      obtain ⟨g, cp, hg0, hg1, hg2, hg3, hget⟩ := (RAt.form fa_len HV3.out).resolve_left fun h => by rw [h.2] at hlt; simp at hlt
      obtain ⟨rfl, rfl⟩ : a1 = some ⟨g, 0, none⟩ ∧ k1 = cp := by simpa using hg0
      have HR := Lib.hid (rangeAt_below (hget j f hf) hbw hg1.2)
      obtain ⟨W4, hW4⟩ : ∃ W, wr.alloc (.cells (faCells f).toArray 30) = W := ⟨_, rfl⟩
      have hb4 : Below wr.heap.size wr W4 := hW4 ▸ (Below.refl _ _).alloc (Nat.le_refl _) _
      obtain ⟨W5, hW5⟩ : ∃ W, W4.alloc (.map (mEs x y) 2) = W := ⟨_, rfl⟩
      have hb5 : Below W4.heap.size W4 W5 := hW5 ▸ (Below.refl _ _).alloc (Nat.le_refl _) _
      have HBW := Lib.hid ((hbw.trans (hb4.mono hbw.size)).trans (hb5.mono (hbw.trans (hb4.mono hbw.size)).size))
      have h5 := (show Blk W4 wr.heap.size (faCells f) 30 from hW4 ▸ Blk.new wr _ _).stays hb5
      have c0 : W5.cell? ⟨wr.heap.size, 0, none⟩ = some (.int .i64 f.x) := h5.cell 0
      have c1 : W5.cell? ⟨wr.heap.size, 1, none⟩ = some (.int .i64 f.y) := h5.cell 1
      have c2 : W5.cell? ⟨wr.heap.size, 2, none⟩ = some (.int .i64 f.c) := h5.cell 2
      have hm5 : W5.heap[W4.heap.size]? = some (.map (mEs x y) 2) := hW5 ▸ heap_alloc_new W4 _
      have hv := HVR.out f (List.mem_of_getElem? hf)
      have l1 := look_int hm5 (k := f.x) (v := vl x y f.x) (by rcases hv.1 with h | h <;> rw [h] <;> simp [vl])
      have l2 := look_int hm5 (k := f.y) (v := vl x y f.y) (by rcases hv.2 with h | h <;> rw [h] <;> simp [vl])
      have m0 : (Instr.makeMap 34 none).run Tryd.prog W4 = .ok (.map (some W4.heap.size)) (W4.alloc (.map #[] 0)) := rfl
      have m1 := put_one W4 x
      have m2 := put_two W4 x y
      rw [hW5] at m2
      have hvx : -1099511627776 ≤ vl x y f.x ∧ vl x y f.x ≤ 1099511627776 := by unfold vl; split <;> omega
      have hvy : -1099511627776 ≤ vl x y f.y ∧ vl x y f.y ≤ 1099511627776 := by unfold vl; split <;> omega
      have hwv : wrap64 (vl x y f.x - vl x y f.y) = vl x y f.x - vl x y f.y := wrap64_in (by omega) (by omega)
      have HTK := Lib.hid (show (fs.take (j + 1)).all (okF x y) = ((fs.take j).all (okF x y) && decide (vl x y f.x - vl x y f.y ≤ f.c)) by rw [List.take_add_one, List.all_append, hf]; simp [okF])
      have hj1 : (j : Int) < (fs.length : Int) := by omega
      clear hget hb4 hb5 hbw hf hg0 h5 hv hm5
      generalize vl x y f.x = vx at *
      generalize vl x y f.y = vy at *
      unfold maxLen at hg3
      cases hh : (fs.take j).all (okF x y)
      · rw [hh] at HTK
        go_wp2_with (first
          | ((with_reducible refine at_ld 30 (.tmp 38) ?_); refine wpList_load_mid rfl 30 (.tmp 38) rfl g (j * 3) rfl (faCells f) _ HR.out Tryd.underlying30 rfl Tryd.sizeLeq2 ?_)
          | ((with_reducible refine at_st 30 (.tmp 12) ?_); refine wpList_store_new rfl 30 (.tmp 12) (.tmp 39) rfl (faCells f) (old := [.int .i64 0, .int .i64 0, .int .i64 0]) rfl rfl Tryd.sizeLeq2 rfl (fa_one f) ?_; rw [hW4]))
        go_roundw
        case rel => exact ⟨j + 1, by omega, by go_num, by rw [HTK.out]; rfl, HBW.out⟩
        case measure => simp [intOf]; omega
      · rw [hh] at HTK
        go_wp2_with (first
          | ((with_reducible refine at_ld 30 (.tmp 38) ?_); refine wpList_load_mid rfl 30 (.tmp 38) rfl g (j * 3) rfl (faCells f) _ HR.out Tryd.underlying30 rfl Tryd.sizeLeq2 ?_)
          | ((with_reducible refine at_st 30 (.tmp 12) ?_); refine wpList_store_new rfl 30 (.tmp 12) (.tmp 39) rfl (faCells f) (old := [.int .i64 0, .int .i64 0, .int .i64 0]) rfl rfl Tryd.sizeLeq2 rfl (fa_one f) ?_; rw [hW4]))
        go_roundw
        case rel => exact ⟨j + 1, by omega, by go_num, by rw [HTK.out]; simp, HBW.out⟩
        case measure => simp [intOf]; omega
    · obtain rfl : j = fs.length := by omega
      rw [List.take_of_length_le (Nat.le_refl _)]
      have HB6 := Lib.hid (HB3.out.trans (hbw.mono HB3.out.size))
      have n0 : wr.cell? ⟨w.heap.size, 0, none⟩ = some (.string s) := ((HC3.out.stays hbw).cell 0)
      have hfe := HFE.out
      have w1 : wrap64 (x + k) = x + k := wrap64_in (by omega) (by omega)
      have w2 : wrap64 (y + l) = y + l := wrap64_in (by omega) (by omega)
      have w3' : wrap64 (l - k) = l - k := wrap64_in (by omega) (by omega)
      have w4' : wrap64 (k - l) = k - l := wrap64_in (by omega) (by omega)
      have w5' : wrap64 (l - k - 1) = l - k - 1 := wrap64_in (by omega) (by omega)
      unfold factsL at hfe
      rw [w3', w4', w5'] at hfe
      clear w3' w4' w5' HFE HVR HV3
      cases h1 : s.toList == [60]
      · cases h2 : s.toList == [60, 61]
        · cases h3 : s.toList == [61, 61]
          · rw [h1, h2, h3] at hfe
            have hh : fs.all (okF x y) = true := by rw [← hfe]; rfl
            rw [hh]
            clear hfe hh
            go_wp2_with fail
            go_ret
            exact ⟨rfl, HB6.out⟩
          · rw [h1, h2, h3] at hfe
            have hh : fs.all (okF x y) = decide (x + k = y + l) := by
              rw [← hfe, Bool.eq_iff_iff]
              simp [okF, vl]
              omega
            rw [hh]
            clear hfe hh
            go_wp2_with fail
            go_ret
            exact ⟨ret_b (by first | (simp; done) | (rw [Bool.eq_iff_iff]; simp; done) | (simp; rfl)), HB6.out⟩
        · rw [h1, h2] at hfe
          have hh : fs.all (okF x y) = decide (x + k ≤ y + l) := by
            rw [← hfe, Bool.eq_iff_iff]
            simp [okF, vl]
            omega
          rw [hh]
          clear hfe hh
          go_wp2_with fail
          go_ret
          exact ⟨ret_b (by first | (simp; done) | (rw [Bool.eq_iff_iff]; simp; done) | (simp; rfl)), HB6.out⟩
      · rw [h1] at hfe
        have hh : fs.all (okF x y) = decide (x + k < y + l) := by
          rw [← hfe, Bool.eq_iff_iff]
          simp [okF, vl]
          omega
        rw [hh]
        clear hfe hh
        go_wp2_with fail
        go_ret
        exact ⟨ret_b (by first | (simp; done) | (rw [Bool.eq_iff_iff]; simp; done) | (simp; rfl)), HB6.out⟩


theorem shapeMeans_reads (os : Os) {H : Type} (enc : TypeId × Value → H) : ∃ places, DataW.whole enc Tryd.prog ((laidWorld os).forCall (fun _ _ => 0) ⟨#[], #[CmpV ⟨#[]⟩ 0 0 0 0, .int .i64 0, .int .i64 0], []⟩).memory Tryd.f4.params.toList Rows.shapeMeansSpec.vars false (#[CmpV ⟨#[]⟩ 0 0 0 0, .int .i64 0, .int .i64 0] : Array Value).toList 8 = some ([.agg [.lit (.string []), .lit (.int .i64 0), .lit (.int .i64 0), .lit (.int .i64 0), .lit (.int .i64 0)], .lit (.int .i64 0), .lit (.int .i64 0)], [], places) :=
  ⟨[], by kernel_rfl⟩

set_option maxRecDepth 100000 in
theorem shapeMeans_lifted (os : Os) (started : os.Started) (H : Type) (enc : TypeId × Value → H) (F : Stop.Interp) :
    ReturnsInHanded {} Tryd.checked os 4 .any ((OpenSpec.ofChange Rows.shapeMeansSpec).preRow enc Tryd.prog Tryd.f4 Rows.shapeMeansRow.domain false Rows.shapeMeansRow.laid) (((OpenSpec.ofChange Rows.shapeMeansSpec).at F).post enc Tryd.prog Tryd.f4 false true false false) := by
  obtain ⟨places, hx⟩ := shapeMeans_reads os enc
  refine returnsInHanded_of_row (C := Tryd.checked) (s := OpenSpec.ofChange Rows.shapeMeansSpec) own started (by kernel_rfl) Tryd.func4
    (witness_row_at (enc := enc) (C := Tryd.checked) false (laidWorld os) #[CmpV ⟨#[]⟩ 0 0 0 0, .int .i64 0, .int .i64 0] rfl (by kernel_rfl) (by kernel_rfl) (by kernel_rfl)
      (OpenSpec.preRow_of_cond 8 hx (by kernel_rfl) (fun k hk => by cases hk) (by kernel_rfl) (laid_met_cmp2 os))) ?_
  intro W base args ds gs before hval hW _ _ _ hL _ _
  exact cmp2_contract Tryd.params4 (by kernel_rfl) rfl (fun _ _ _ => rfl) shapeMeans_walk W base args ds gs before hval hW hL

theorem shapeMeans_said : Rows.ShapeMeansSaid :=
  OpenClaim.holds_of_cond 4 Tryd.f4 rfl rfl rfl rfl rfl rfl rfl ⟨rfl, rfl, rfl, rfl, rfl⟩ rfl rfl rfl rfl rfl (by kernel_rfl) Tryd.func4 (by kernel_rfl)
    (of_decide_eq_true (by kernel_rfl)) (by unfold Func.isWrapper; first | (rw [if_pos (by decide +kernel)]; kernel_rfl) | (rw [if_neg (by decide +kernel)]; exact ⟨rfl, rfl⟩))
    (fun os started H enc _ F => by rw [OpenClaim.pre_eq_preRow]; exact shapeMeans_lifted os started H enc F)

theorem shapeMeans_plain (f : FuncId) (fn : Func) (hf : Tryd.pinned.checked.prog.funcNamed "lychgate/lychgatelaw11.ShapeMeans" = some f) (hfn : Tryd.pinned.checked.prog.funcs[f]? = some fn) :
    true = Tryd.pinned.checked.prog.looks [] ∧ ∀ (j : Nat) t, fn.params[j]? = some t → Tryd.pinned.checked.prog.wantsStandIn t = false := by
  obtain rfl : f = 4 := Option.some.inj ((show Tryd.prog.funcNamed "lychgate/lychgatelaw11.ShapeMeans" = some 4 by kernel_rfl).symm.trans hf) |>.symm
  obtain rfl : fn = Tryd.f4 := (Option.some.inj (Tryd.func4.symm.trans hfn)).symm
  refine ⟨by kernel_rfl, fun j t ht => ?_⟩
  rw [Tryd.params4] at ht
  rcases (show t = 23 ∨ t = 2 by have := Array.mem_of_getElem? ht; simpa using this) with rfl | rfl
  · exact (show Tryd.prog.wantsStandIn 23 = false by kernel_rfl)
  · exact (show Tryd.prog.wantsStandIn 2 = false by kernel_rfl)

theorem shapeMeans_card : Rows.ShapeMeansCardSaid :=
  Claim7.holds_tied_plain_at .later [] _ _ _ _ shapeMeans_said (fun _ h => by cases h) (by kernel_rfl) (fun _ h => by cases h) shapeMeans_row_tie rfl ⟨rfl, rfl⟩ (by kernel_rfl) rfl shapeMeans_plain (by kernel_rfl)

end Go.Proofs.YtdkdidgeaalcgaaDoor
